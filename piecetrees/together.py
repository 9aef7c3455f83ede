"""Tables together, rows together, and how few looks change that some lots become pieces."""

from piecetrees.errors import Unfit
from piecetrees.looks import is_even, table_error
from piecetrees.lots import all_lots, outside
from piecetrees.pieces import is_piece, least_piece, pieces
from piecetrees.trees import table_of, tree_of


def together(tables):
    """The table in which each thing looks by the number of the looks that it has in all of some tables."""
    size = tables[0][0]
    check_sizes(size, tables)
    return numbered(size, [table[1] for table in tables])


def check_sizes(size, tables):
    """Raises Unfit for tables that are not all of a size."""
    if not all([table[0] == size for table in tables]):
        raise Unfit()


def numbered(size, all_rows):
    """The table in which each thing looks by the number of its looks in the rows of all of some tables."""
    glances = glances_of(size)
    looks = {(x, y): tuple([rows[x][y] for rows in all_rows]) for x, y in glances}
    found = sorted(set(list(looks.values())))
    return (size, tuple([
        tuple([0 if x == y else found.index(looks[(x, y)]) for y in range(size)])
        for x in range(size)
    ]))


def glances_of(size):
    """All pairs of unlike things, ascending."""
    return [(x, y) for x in range(size) for y in range(size) if x != y]


def both(table, other):
    """Two tables together."""
    return together((table, other))


def tree_of_both(size, tree, other):
    """The tree of the tables of two trees together."""
    return tree_of(both(table_of(size, tree), table_of(size, other)))


def lone(table, other):
    """The lots that are pieces of the first of two tables alone, and those that are pieces of the second alone."""
    check_sizes(table[0], (other,))
    here, there = pieces(table), pieces(other)
    return (tuple([lot for lot in here if lot not in there]), tuple([lot for lot in there if lot not in here]))


def parting_piece(table, other):
    """The first lot that is a piece of just one of two tables; None if there is none."""
    check_sizes(table[0], (other,))
    for lot in all_lots(table[0]):
        if is_piece(table, lot) != is_piece(other, lot):
            return lot
    return None


def shared_rounds(table, other, lot):
    """How a lot grows to a piece of two tables, by the least piece of the one and of the other in turns."""
    check_sizes(table[0], (other,))
    found = [lot]
    done = False
    while not done:
        before = found[-1]
        for one in (table, other):
            wide = least_piece(one, found[-1])
            if wide != found[-1]:
                found.append(wide)
        done = found[-1] == before
    return tuple(found)


def line_of(row):
    """The order in which each thing is ahead of all that stand behind it in a row."""
    size = len(row)
    return (size, tuple([tuple([int(row.index(x) < row.index(y)) for y in range(size)]) for x in range(size)]))


def rows_table(size, rows):
    """The table of the lines of some rows together."""
    return numbered(size, [line_of(row)[1] for row in rows])


def stretches(size, rows):
    """All stretches of some rows, in order."""
    return tuple([lot for lot in all_lots(size) if is_stretch(rows, lot)])


def is_stretch(rows, lot):
    """Whether the things of a lot, one at least, stand side by side in each of some rows."""
    return lot != () and all([is_side_by_side(row, lot) for row in rows])


def is_side_by_side(row, lot):
    """Whether the things of a lot stand side by side in a row."""
    places = [row.index(x) for x in lot]
    return max(places) - min(places) == len(lot) - 1


def pair_classes(size, lots, even):
    """The bundles of glances that have to be alike that some lots be pieces, and, if asked, the table even."""
    glances = glances_of(size)
    # For each glance the first one of the bundle that it has come into.
    first = {glance: glance for glance in glances}
    for bound in bonds(size, lots, even):
        met = [first[glance] for glance in bound]
        least = min(met)
        first = {glance: least if first[glance] in met else first[glance] for glance in glances}
    return tuple([
        tuple([glance for glance in glances if first[glance] == one])
        for one in glances if first[one] == one
    ])


def bonds(size, lots, even):
    """Lists of glances that are bound to one another."""
    seen = [(x, lot) for lot in lots if lot for x in outside(size, lot)]
    onward = [[(x, y) for y in lot] for x, lot in seen]
    back = [[(y, x) for y in lot] for x, lot in seen]
    return onward + back + ([[(x, y), (y, x)] for x, y in glances_of(size)] if even else [])


def mend_cost(table, lots, even):
    """How many looks have to change at least that some lots become pieces, and, if asked, the table even."""
    found = [looks_in(table, bundle) for bundle in pair_classes(table[0], lots, even)]
    return sum([len(looks) - looks.count(most_often(looks)) for looks in found])


def looks_in(table, bundle):
    """The looks of the glances of a bundle."""
    return [table[1][x][y] for x, y in bundle]


def most_often(looks):
    """The look that is there most often."""
    return max(looks, key=lambda look: looks.count(look))


def mended(table, lots, even):
    """A table with as few other looks as can be in which some lots are pieces, and which is even, if asked."""
    size = table[0]
    looks = {
        glance: most_often(looks_in(table, bundle))
        for bundle in pair_classes(size, lots, even) for glance in bundle
    }
    return (size, tuple([tuple([0 if x == y else looks[(x, y)] for y in range(size)]) for x in range(size)]))


def mended_holds(table, lots, even, value):
    """Whether a value is what mended may return."""
    if table_error(value) is not None or value[0] != table[0] or (even and not is_even(value)):
        return False
    if not all([is_piece(value, lot) for lot in lots]):
        return False
    unlike = [(x, y) for x, y in glances_of(table[0]) if value[1][x][y] != table[1][x][y]]
    return len(unlike) == mend_cost(table, lots, even)
