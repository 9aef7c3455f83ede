"""Plain checks of orders, straight from the words of the document, and orders to try them on."""

import itertools
import random

import plain
import plain_webs


def is_order(table):
    """Whether a table is an order."""
    size, rows = table
    pairs = list(itertools.permutations(range(size), 2))
    if any(rows[x][y] not in (0, 1) or rows[x][y] + rows[y][x] == 2 for x, y in pairs):
        return False
    threes = itertools.permutations(range(size), 3)
    return all(rows[x][z] for x, y, z in threes if rows[x][y] and rows[y][z])


def orders_of(size):
    """All orders of a size."""
    return [order for web in plain_webs.webs_of(size) for order in plain_webs.turnings(web)]


def small_orders():
    """All orders of up to three things, and some of four and five."""
    rng = random.Random(110)
    found = [order for size in range(4) for order in orders_of(size)] + rng.sample(orders_of(4), 60)
    return found + [plain.drawn_order(rng, 5) for _ in range(25)] + [plain.drawn_split(rng, 5, lambda many: flat_or_line(rng, many))]


def flat_or_line(rng, size):
    """An order of things beside one another, of things in a row, or a drawn one."""
    told = rng.randrange(3)
    return plain.drawn_order(rng, size) if told == 2 else plain.by(size, lambda x, y: int(told == 1 and x < y))


def wide_orders(seed, many):
    """Orders of six to eight things."""
    rng = random.Random(seed)
    found = []
    for size in (6, 7, 8):
        found += [plain.by(size, lambda x, y: 0), plain.by(size, lambda x, y: int(x > y)), plain.by(size, lambda x, y: int(x // 2 < y // 2))]
        for _ in range(many):
            found += [plain.drawn_order(rng, size), plain.drawn_split(rng, size, lambda many: flat_or_line(rng, many))]
    return found


def no_orders(seed):
    """Tables of all sizes that are no orders."""
    found = [table for size in range(2, 9) for table in plain.drawn_tables(seed, size)]
    return [table for table in found if not is_order(table)]


def first_no_order(table):
    """The first lot of two or three things whose part is no order."""
    return [lot for lot in plain.lots(table[0]) if len(lot) in (2, 3) and not is_order(plain.part(table, lot))][0]


def in_order(lots):
    return tuple(sorted(lots, key=lambda lot: (len(lot), lot)))


def fewest(size, fits):
    """As few lots as can be that fit and have each thing once: how many, by a plain search."""
    def least(left):
        if not left:
            return 0
        first, others = left[0], left[1:]
        return 1 + min(
            least([x for x in others if x not in more])
            for many in range(len(others) + 1) for more in itertools.combinations(others, many) if fits((first, *more))
        )
    return least(list(range(size)))


def is_parting(size, value, fits):
    """Whether a value is a tuple of lots that fit, in order, none of them (), with each thing once."""
    if type(value) is not tuple or any(type(lot) is not tuple or not lot for lot in value):
        return False
    if any(type(x) is not int for lot in value for x in lot):
        return False
    if any(lot != tuple(sorted(set(lot))) for lot in value) or sorted(x for lot in value for x in lot) != list(range(size)):
        return False
    return value == in_order(value) and all(fits(lot) for lot in value)


def spoilt(rng, lots, size):
    """Tuples of lots near to one, most of which do not hold."""
    found = [lots, lots[::-1], lots[1:], lots[:-1], lots + lots[:1], ((),) + lots, list(lots), [list(lot) for lot in lots]]
    found += [tuple(list(lot) for lot in lots), tuple(lot[::-1] for lot in lots), tuple((x,) for x in range(size))]
    found += [(tuple(range(size)),), lots + ((size,),), tuple(tuple(bool(x) if x < 2 else x for x in lot) for lot in lots)]
    for _ in range(4):
        if len(lots) > 1:
            one, two = rng.sample(range(len(lots)), 2)
            x = rng.choice(lots[one])
            moved = [tuple(y for y in lots[k] if y != x) if k == one else lots[k] for k in range(len(lots))]
            moved[two] = tuple(sorted(moved[two] + (x,)))
            found.append(in_order([lot for lot in moved if lot]))
            found.append(in_order([lots[k] for k in range(len(lots)) if k not in (one, two)] + [tuple(sorted(lots[one] + lots[two]))]))
    return found
