"""Plain checks, straight from the words of the document, and tables to try them on."""

import itertools
import random


def lots(size):
    """All lots of a size, in order."""
    return [lot for many in range(size + 1) for lot in itertools.combinations(range(size), many)]


def tells(table, z, x, y):
    """Whether a thing tells two others apart."""
    rows = table[1]
    return rows[z][x] != rows[z][y] or rows[x][z] != rows[y][z]


def part(table, lot):
    """The table of the things of a lot."""
    return (len(lot), tuple(tuple(table[1][x][y] for y in lot) for x in lot))


def is_piece(table, lot):
    """Whether no thing outside tells two of a lot apart."""
    outside = [z for z in range(table[0]) if z not in lot]
    return not any(tells(table, z, x, y) for z in outside for x, y in itertools.combinations(lot, 2))


def pieces(table):
    """All pieces, in order."""
    return [lot for lot in lots(table[0]) if is_piece(table, lot)]


def cross(lot, other):
    """Whether two lots meet and neither is in the other."""
    here, there = set(lot), set(other)
    return bool(here & there) and bool(here - there) and bool(there - here)


def strong(table):
    """All strong pieces, in order."""
    found = pieces(table)
    return [lot for lot in found if lot and not any(cross(lot, other) for other in found)]


def is_firm(table):
    """Whether a table of three things or more has no pieces but those that each table has."""
    size = table[0]
    return size >= 3 and len(pieces(table)) == size + 2


def kind(table):
    """The word and the looks of a table of sons, and the order of the sons."""
    size, rows = table
    pairs = list(itertools.permutations(range(size), 2))
    told = []
    if len({rows[x][y] for x, y in pairs}) == 1:
        told.append(("all", (rows[0][1],), tuple(range(size))))
    if size >= 3 and is_firm(table):
        told.append(("firm", rows, tuple(range(size))))
    for order in itertools.permutations(range(size)):
        if told:
            break
        looks = {(rows[x][y], rows[y][x]) for x, y in itertools.combinations(order, 2)}
        if len(looks) == 1 and min(looks)[0] < min(looks)[1]:
            told.append(("line", min(looks), order))
    assert len(told) == 1, (table, told)
    return told[0]


def tree(table, lot=None, strong_ones=None):
    """The tree of a table, or at a strong piece of it."""
    lot = tuple(range(table[0])) if lot is None else lot
    strong_ones = strong(table) if strong_ones is None else strong_ones
    if not lot:
        return ()
    if len(lot) == 1:
        return lot[0]
    inside = [other for other in strong_ones if set(other) < set(lot)]
    sons = [son for son in inside if not any(set(son) < set(other) for other in inside)]
    sons = sorted(sons)
    assert sorted(x for son in sons for x in son) == list(lot)
    word, looks, order = kind(part(table, [son[0] for son in sons]))
    return (word, looks, tuple(tree(table, sons[k], strong_ones) for k in order))


def by(size, look):
    """The table in which x looks look(x, y) on each other y."""
    return (size, tuple(tuple(0 if x == y else look(x, y) for y in range(size)) for x in range(size)))


def drawn_table(rng, size, looks):
    """Any looks."""
    return by(size, lambda x, y: rng.choice(looks))


def drawn_even(rng, size, looks):
    """Each two things look alike on one another."""
    told = {pair: rng.choice(looks) for pair in itertools.combinations(range(size), 2)}
    return by(size, lambda x, y: told[(min(x, y), max(x, y))])


def drawn_unlike(rng, size, looks):
    """No two things look alike on one another."""
    told = {pair: rng.sample(looks, 2) for pair in itertools.combinations(range(size), 2)}
    return by(size, lambda x, y: told[(min(x, y), max(x, y))][int(x > y)])


def drawn_course(rng, size):
    """Of any two things just one looks 1 on the other, else 0."""
    return drawn_unlike(rng, size, (0, 1))


def drawn_order(rng, size):
    """An order: those things are ahead that are so in some rows."""
    rows = [rng.sample(range(size), size) for _ in range(rng.choice((1, 2, 2, 3)))]
    return by(size, lambda x, y: int(all(row.index(x) < row.index(y) for row in rows)))


def drawn_split(rng, size, made):
    """A table with pieces in pieces: things of one are told apart by none outside."""
    if size <= 1:
        return by(size, None)
    many = rng.randint(2, size)
    cuts = sorted(rng.sample(range(1, size), many - 1))
    ends = list(zip([0, *cuts], [*cuts, size]))
    inner = [drawn_split(rng, high - low, made) for low, high in ends] if many < size else []
    outer = made(many)
    at = [k for k, (low, high) in enumerate(ends) for _ in range(high - low)]
    names = rng.sample(range(size), size)
    rows = [[0] * size for _ in range(size)]
    for x, y in itertools.permutations(range(size), 2):
        k = at[x]
        inside = inner[k][1][x - ends[k][0]][y - ends[k][0]] if k == at[y] else None
        rows[names[x]][names[y]] = outer[1][k][at[y]] if inside is None else inside
    return (size, tuple(tuple(row) for row in rows))


def drawn_tables(seed, size):
    """One table of a size of each of many kinds."""
    rng = random.Random(seed * 100 + size)
    firm_or_not = (
        lambda many: by(many, lambda x, y: 0),
        lambda many: by(many, lambda x, y: 1),
        lambda many: by(many, lambda x, y: int(x < y)),
        lambda many: drawn_course(rng, many),
        lambda many: drawn_even(rng, many, (0, 1)),
    )
    return [
        drawn_table(rng, size, (0, 1)), drawn_table(rng, size, range(100)), drawn_table(rng, size, (5, 99)),
        drawn_unlike(rng, size, (0, 3, 7)), drawn_even(rng, size, (0, 1)), drawn_even(rng, size, (0, 4, 90)),
        drawn_order(rng, size), drawn_course(rng, size),
        drawn_split(rng, size, lambda many: rng.choice(firm_or_not)(many)),
        drawn_split(rng, size, lambda many: drawn_table(rng, many, (0, 1))),
        drawn_split(rng, size, lambda many: drawn_even(rng, many, (0, 1))),
        drawn_split(rng, size, lambda many: drawn_order(rng, many)),
    ]


def drawn_firm(rng, size):
    """A firm table."""
    while True:
        table = rng.choice((drawn_table, drawn_unlike))(rng, size, range(4))
        table = drawn_course(rng, size) if rng.random() < 0.2 else table
        table = drawn_even(rng, size, (0, 1)) if size > 3 and rng.random() < 0.2 else table
        if is_firm(table):
            return table


def drawn_tree(rng, things, barred=None, loose=False):
    """A tree of some things; not with the word and the looks barred, or, loosely, also with them."""
    if len(things) == 1:
        return things[0]
    many = rng.randint(2, len(things))
    word = rng.choice(("all", "line", "firm") if many > 2 else ("all", "line"))
    looks = None
    while looks is None or ((word, looks) == barred and not loose):
        low, high = sorted(rng.sample(range(2) if loose else rng.choice((range(3), range(100))), 2))
        looks = {"all": (low,), "line": (low, high)}.get(word) or drawn_firm(rng, many)[1]
    mixed = rng.sample(things, len(things))
    cuts = [0, *sorted(rng.sample(range(1, len(things)), many - 1)), len(things)]
    sons = [mixed[low:high] for low, high in zip(cuts, cuts[1:])]
    if word != "line":
        sons = sorted(sons, key=min)
    return (word, looks, tuple(drawn_tree(rng, son, (word, looks), loose) for son in sons))


def things_in(tree):
    """The things of a tree that has a thing."""
    return [tree] if isinstance(tree, int) else [x for son in tree[2] for x in things_in(son)]


def knots_in(tree):
    """The knots of a tree: each, then all in its first son, then all in the next."""
    return [] if isinstance(tree, int) or tree == () else [tree, *[knot for son in tree[2] for knot in knots_in(son)]]


def is_number(value, most):
    return type(value) is int and 0 <= value <= most


def has_form(size, value):
    if is_number(value, size - 1):
        return True
    if type(value) is not tuple or len(value) != 3 or value[0] not in ("all", "line", "firm"):
        return False
    if type(value[1]) is not tuple or type(value[2]) is not tuple or not value[2]:
        return False
    return all(has_form(size, son) for son in value[2])


def has_looks(word, looks, many):
    if word == "firm":
        rows = len(looks) == many and all(type(row) is tuple and len(row) == many for row in looks)
        if not rows or not all(is_number(look, 99) for row in looks for look in row):
            return False
        return all(looks[x][x] == 0 for x in range(many)) and is_firm((many, looks))
    if not all(is_number(look, 99) for look in looks):
        return False
    return len(looks) == 1 if word == "all" else len(looks) == 2 and looks[0] < looks[1]


def tree_error(size, value):
    """What tree_error has to tell, straight from the words of the document."""
    if size == 0:
        return None if type(value) is tuple and value == () else "form"
    if not has_form(size, value):
        return "form"
    if sorted(things_in(value)) != list(range(size)):
        return "things"
    for k, (word, looks, sons) in enumerate(knots_in(value)):
        if len(sons) < (3 if word == "firm" else 2):
            return ("few", k)
        least = [min(things_in(son)) for son in sons]
        if word in ("all", "firm") and least != sorted(least):
            return ("order", k)
        if not has_looks(word, looks, len(sons)):
            return ("looks", k)
        if word != "firm" and any(type(son) is tuple and repr(son[:2]) == repr((word, looks)) for son in sons):
            return ("same", k)
    return None
