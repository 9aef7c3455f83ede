"""Even tables: triangles, and how a table without one is made of tables of two looks."""

from piecetrees.bounds import MAX_MENDED
from piecetrees.errors import HasTriangle, NotEven, TooMany, Unfit
from piecetrees.looks import is_even, is_tuple_of, picked, put_in, renamed, table_error, with_look
from piecetrees.lots import is_thing, lots_of, outside, reached_from
from piecetrees.rows import is_row
from piecetrees.trees import is_knot, things_in, tree_of


def check_even(table):
    """Raises NotEven for a table that is not even, with the first pair of things that look unlike on one another."""
    for x, y in lots_of(table[0], 2):
        if table[1][x][y] != table[1][y][x]:
            raise NotEven((x, y))


def looks_of(table):
    """The looks that two things have, ascending."""
    check_even(table)
    return tuple(sorted(set([table[1][x][y] for x, y in lots_of(table[0], 2)])))


def triangles_in(table):
    """All lots of three things of whose three looks no two are alike, in order."""
    rows = table[1]
    return [(x, y, z) for x, y, z in lots_of(table[0], 3) if len(set([rows[x][y], rows[x][z], rows[y][z]])) == 3]


def triangle(table):
    """The first triangle; None if there is none."""
    check_even(table)
    found = triangles_in(table)
    return found[0] if found else None


def triangle_count(table):
    """How many triangles there are."""
    check_even(table)
    return len(triangles_in(table))


def apart_look(table):
    """The least look that does not hold all; None if each does."""
    for look in looks_of(table):
        if not holds_all(table, look):
            return look
    return None


def holds_all(table, look):
    """Whether one can go from each thing to each other one by things of a look; there are two things at least."""
    size, rows = table
    found = reached_from(0, lambda x: [y for y in outside(size, (x,)) if rows[x][y] == look])
    return len(found) == size


def built(table):
    """How a table without a triangle is made, from that of one thing, by putting in tables of two looks at most."""
    lot = triangle(table)
    if lot is not None:
        raise HasTriangle(lot)
    if table[0] == 0:
        raise Unfit()
    # What is there is one thing for each tree that stands here.
    trees = [tree_of(table)]
    row = []
    while any([is_knot(tree) for tree in trees]):
        at = [k for k in range(len(trees)) if is_knot(trees[k])][0]
        sons = list(trees[at][2])
        row.append((at, picked(table, [things_in(son)[0] for son in sons])))
        trees = trees[:at] + sons + trees[at + 1:]
    return (tuple(trees), tuple(row))


def built_holds(table, value):
    """Whether a value is what built may return."""
    check_even(table)
    if not is_tuple_of(value, 2) or not is_row(table[0], value[0]) or not isinstance(value[1], tuple):
        return False
    made = (1, ((0,),))
    for step in value[1]:
        if not is_step(made, step) or made[0] - 1 + step[1][0] > table[0]:
            return False
        made = put_in(made, step[0], step[1])
    return made[0] == table[0] and renamed(made, value[0]) == table


def is_step(table, value):
    """Whether a value is a pair of a thing of a table and of an even table with a thing and two looks at most."""
    if not is_tuple_of(value, 2) or not is_thing(table[0], value[0]) or table_error(value[1]) is not None:
        return False
    inner = value[1]
    return inner[0] > 0 and is_even(inner) and len(looks_of(inner)) <= 2


def mend_count(table):
    """Of how few pairs the look has to become another one that there be no triangle."""
    check_mendable(table)
    return mends(table)[0]


def check_mendable(table):
    """Raises NotEven for a table that is not even, TooMany for one of too many things."""
    check_even(table)
    if table[0] > MAX_MENDED:
        raise TooMany(MAX_MENDED)


def mended_even(table):
    """The first table without a triangle that comes by changing the looks of as few pairs as can be."""
    check_mendable(table)
    return min(mends(table)[1])


def mends(table):
    """How few pairs have to change that there be no triangle, and all tables that come so."""
    many = 0
    found = mended_by(table, many)
    while not found:
        many += 1
        found = mended_by(table, many)
    return (many, found)


def mended_by(table, many):
    """All tables without a triangle that come by changing the looks of just so many pairs."""
    pairs = lots_of(table[0], 2)
    found = [one for places in lots_of(len(pairs), many) for one in changed(table, [pairs[k] for k in places])]
    return [one for one in found if not triangles_in(one)]


def changed(table, pairs):
    """All tables in which each of some pairs has become another one of the looks, both ways alike."""
    found = [table]
    for x, y in pairs:
        looks = [look for look in looks_of(table) if look != table[1][x][y]]
        found = [with_look(with_look(one, x, y, look), y, x, look) for one in found for look in looks]
    return found
