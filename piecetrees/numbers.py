"""What is counted and weighed: clear and strewn lots, rows that keep an order, chains."""

from math import gcd

from piecetrees.arrows import arrows_of
from piecetrees.errors import NotKeeping, NotOrder, TooFar
from piecetrees.looks import is_order, part
from piecetrees.lots import all_lots, in_order, is_lot, is_within, lots_of, outside
from piecetrees.rows import is_row
from piecetrees.turnings import count_orders


def heaviest(table, look, weights):
    """The greatest weight of a clear lot, and the first lot that has it."""
    best = (0, ())
    for lot in all_lots(table[0]):
        weight = sum([weights[x] for x in lot])
        if weight > best[0] and is_clear(table, look, lot):
            best = (weight, lot)
    return best


def is_clear(table, look, lot):
    """Whether any two things of a lot look so on one another, both ways."""
    rows = table[1]
    return all([rows[x][y] == look for x in lot for y in lot if x != y])


def is_strewn(table, look, lot):
    """Whether no two things of a lot look so on one another, both ways."""
    rows = table[1]
    return not any([rows[x][y] == look and rows[y][x] == look for x in lot for y in lot if x != y])


def clear_lots(table, look):
    """All clear lots, in order."""
    return [lot for lot in all_lots(table[0]) if is_clear(table, look, lot)]


def fewest_lots(table, look):
    """As few clear lots as can be that have, all told, each thing just once, in order."""
    return fewest_of(table[0], clear_lots(table, look))


def fewest_of(size, lots):
    """As few of some lots as can be that have, all told, each thing just once; the single things are among them."""
    best = {(): ()}
    for whole in all_lots(size)[1:]:
        # One of them has the first thing, and it is the first thing of that one.
        ways = [best[left_of(whole, lot)] + (lot,) for lot in lots if lot[:1] == whole[:1] and is_within(lot, whole)]
        best[whole] = min(ways, key=len)
    return tuple(in_order(best[tuple(range(size))]))


def left_of(lot, gone):
    """The lot of the things of a lot that are not in another one."""
    return tuple([x for x in lot if x not in gone])


def is_parting(size, value, lots):
    """Whether a value is a tuple of some lots, in order, none of them (), that have each thing just once."""
    if not isinstance(value, tuple) or not all([is_lot(size, lot) and lot != () for lot in value]):
        return False
    if sorted([x for lot in value for x in lot]) != list(range(size)):
        return False
    return list(value) == in_order(value) and all([lot in lots for lot in value])


def fewest_holds(table, look, value):
    """Whether a value is what fewest_lots may return."""
    lots = clear_lots(table, look)
    return is_parting(table[0], value, lots) and len(value) == len(fewest_of(table[0], lots))


def strewn_lot(table, look):
    """The first of the strewn lots that have the most things."""
    return first_widest([lot for lot in all_lots(table[0]) if is_strewn(table, look, lot)])


def first_widest(lots):
    """The first of those of some lots, in order, that have the most things."""
    return [lot for lot in lots if len(lot) == len(lots[-1])][0]


def check_order(table):
    """Raises NotOrder for a table that is no order, with the first lot whose part is none."""
    # What is not so of two things or of three is so of all.
    for lot in lots_of(table[0], 2) + lots_of(table[0], 3):
        if not is_order(part(table, lot)):
            raise NotOrder(lot)


def is_keeping(table, value):
    """Whether a value is a row that keeps an order."""
    check_order(table)
    return is_row(table[0], value) and first_broken(table, value) is None


def first_broken(table, row):
    """The first pair of things the first of which is ahead, but comes behind in a row; None if there is none."""
    for x, y in arrows_of(table):
        if row.index(x) > row.index(y):
            return (x, y)
    return None


def keeping_count(table):
    """How many rows keep an order."""
    check_order(table)
    return count_orders(table[0], arrows_of(table))


def keeping_at(table, place):
    """The row at a place of all that keep an order, ascending."""
    count = keeping_count(table)
    if place >= count:
        raise TooFar(count)
    row = ()
    while len(row) < table[0]:
        row, place = one_more(table, row, place)
    return row


def one_more(table, row, place):
    """A begun row with one thing more, and the place among the keeping rows that begin so."""
    for x in not_led(table, outside(table[0], row)):
        many = count_behind(table, row + (x,))
        if place < many:
            return (row + (x,), place)
        place = place - many
    return None


def not_led(table, lot):
    """The lot of those things of a lot that none of it is ahead of."""
    rows = table[1]
    return tuple([x for x in lot if not any([rows[y][x] == 1 for y in lot])])


def count_behind(table, begun):
    """How many rows that keep an order begin as one of them does."""
    left = outside(table[0], begun)
    return count_orders(len(left), arrows_of(part(table, left)))


def keeping_place(table, row):
    """The place of a row of all that keep an order, ascending."""
    check_order(table)
    pair = first_broken(table, row)
    if pair is not None:
        raise NotKeeping(pair)
    # Before it come those that go on, behind the same begin, with a lesser thing.
    begins = [row[:k] + (x,) for k in range(len(row)) for x in not_led(table, outside(table[0], row[:k])) if x < row[k]]
    return sum([count_behind(table, begin) for begin in begins])


def mean_place(table, thing):
    """The mean of the places of a thing in all rows that keep an order."""
    count = keeping_count(table)
    # In each row a thing's place is the number of those that come ahead of it.
    return fraction(sum([count_ahead(table, x, thing) for x in outside(table[0], (thing,))]), count)


def share_ahead(table, one, other):
    """The share of the rows that keep an order in which one thing comes ahead of another one."""
    count = keeping_count(table)
    return fraction(count_ahead(table, one, other), count)


def count_ahead(table, one, other):
    """In how many rows that keep an order one thing comes ahead of another one."""
    return count_orders(table[0], arrows_of(table) + [(one, other)])


def fraction(many, whole):
    """A fraction as a pair without a common divisor."""
    common = gcd(many, whole)
    return (many // common, whole // common)


def chain_lots(table):
    """All chains, in order."""
    rows = table[1]
    return [
        lot for lot in all_lots(table[0])
        if all([rows[x][y] + rows[y][x] == 1 for x in lot for y in lot if x < y])
    ]


def chain_lot(table):
    """The first of the chains that have the most things."""
    check_order(table)
    return first_widest(chain_lots(table))


def layers(table):
    """Beside lots: what nothing is ahead of, then what nothing that is left is ahead of, and so on."""
    check_order(table)
    found = []
    left = tuple(range(table[0]))
    while left:
        found.append(not_led(table, left))
        left = left_of(left, found[-1])
    return tuple(found)


def beside_lot(table):
    """The first of the beside lots that have the most things."""
    check_order(table)
    return first_widest(clear_lots(table, 0))


def fewest_chains(table):
    """As few chains as can be that have, all told, each thing just once, in order."""
    check_order(table)
    return fewest_of(table[0], chain_lots(table))


def chains_hold(table, value):
    """Whether a value is what fewest_chains may return."""
    # As few as beside_lot has things: with fewer it cannot be done, and with so many it can.
    many = len(beside_lot(table))
    return is_parting(table[0], value, chain_lots(table)) and len(value) == many
