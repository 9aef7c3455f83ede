"""Rows of things, and the webs that two of them draw."""

from math import factorial

from piecetrees.arrows import clash
from piecetrees.errors import NotDrawn, TooFar, Unfit
from piecetrees.knots import son_lots
from piecetrees.looks import is_tuple_of, turned
from piecetrees.lots import is_thing, is_within, lots_of, outside
from piecetrees.trees import is_knot, tree_of
from piecetrees.turnings import turning, turning_count


def is_row(size, value):
    """Whether a value is a row of a size."""
    if not is_tuple_of(value, size) or not all([is_thing(size, x) for x in value]):
        return False
    return sorted(value) == list(range(size))


def rest(web):
    """The web in which just those things are tied that are not tied in a web."""
    size, rows = web
    return (size, tuple([tuple([int(x != y and rows[x][y] == 0) for y in range(size)]) for x in range(size)]))


def drawn(row, other):
    """The web that two rows draw."""
    order, _ = orders_of(row, other)
    size, rows = order
    return (size, tuple([tuple([rows[x][y] + rows[y][x] for y in range(size)]) for x in range(size)]))


def orders_of(row, other):
    """The pair of orders that belongs to a pair of rows."""
    check_sizes(row, other)
    return (order_ahead(row, other[::-1]), order_ahead(row, other))


def check_sizes(row, other):
    """Raises Unfit for rows of unlike sizes."""
    if len(row) != len(other):
        raise Unfit()


def order_ahead(row, other):
    """The order in which a thing is ahead of another one if it is so in both rows."""
    size = len(row)
    here = [row.index(x) for x in range(size)]
    there = [other.index(x) for x in range(size)]
    return (size, tuple([
        tuple([int(here[x] < here[y] and there[x] < there[y]) for y in range(size)])
        for x in range(size)
    ]))


def rows_of(order, other):
    """The pair of rows to which a pair of orders belongs."""
    size, rows = order
    if other[0] != size:
        raise Unfit()
    for x, y in lots_of(size, 2):
        # Just one of the two orders has the two things in order.
        if rows[x][y] + rows[y][x] + other[1][x][y] + other[1][y][x] != 1:
            raise Unfit()
    return (row_by(order, other), row_by(turned(order), other))


def row_by(order, other):
    """The row in which a thing stands ahead of another one if it is so in one of two orders."""
    size = order[0]
    ahead = [sum([order[1][y][x] + other[1][y][x] for y in range(size)]) for x in range(size)]
    return tuple([ahead.index(k) for k in range(size)])


def draw(web):
    """Any pair of rows that draws a web; None if there is none."""
    order, other = turning(web), turning(rest(web))
    return None if order is None or other is None else rows_of(order, other)


def draw_holds(web, value):
    """Whether a value is a pair of rows that draws a web."""
    if not is_tuple_of(value, 2) or not all([is_row(web[0], row) for row in value]):
        return False
    return drawn(value[0], value[1]) == web


def draw_paper(web):
    """Why no two rows draw a web; None if two do."""
    told = clash(web)
    if told is not None:
        return ("tied", told)
    told = clash(rest(web))
    return None if told is None else ("apart", told)


def draw_count(web):
    """How many pairs of rows draw a web."""
    return turning_count(web) * turning_count(rest(web))


def nth_draw(web, place):
    """The pair of rows at a place of the row of all that draw a web, ascending."""
    count = draw_count(web)
    if place >= count:
        raise TooFar(count)
    plan = row_plan(tree_of(web))
    row = ()
    while len(row) < web[0]:
        row, place = one_more(plan, row, outside(web[0], row), place)
    return (row, partner(web, row))


def one_more(plan, row, free, place):
    """A begun row with one more of the free things, and the place among the rows that begin so."""
    for x in free:
        many = count_begun(plan, row + (x,))
        if place < many:
            return (row + (x,), place)
        place = place - many
    return None


def partner(web, row):
    """The row that draws a web with a row that some row does draw it with."""
    size, rows = web
    # Tied things stand the other way round in it, all others as in the row.
    ahead = [
        len([y for y in row if y != x and (row.index(y) < row.index(x)) != (rows[x][y] == 1)])
        for x in range(size)
    ]
    return tuple([ahead.index(k) for k in range(size)])


def row_plan(tree):
    """What first rows of two that draw a web may be, by its tree: things, or sons in some orders."""
    if not is_knot(tree):
        return tree
    word, looks, sons = tree
    return (son_lots(sons), None if word == "all" else son_orders((len(sons), looks)), [row_plan(son) for son in sons])


def son_orders(web):
    """The first rows of all pairs that draw a firm web."""
    order, other = turning(web), turning(rest(web))
    return [row_by(one, two) for one in (order, turned(order)) for two in (other, turned(other))]


def count_begun(plan, row):
    """How many first rows, by a plan, begin with the things of a row."""
    if isinstance(plan, int):
        return int(row in ((), (plan,)))
    lots, orders, plans = plan
    places = places_begun(lots, row)
    if places is None:
        return 0
    count = 1
    for k in range(len(lots)):
        count = count * count_begun(plans[k], tuple([x for x in row if x in lots[k]]))
    if orders is None:
        return count * factorial(len(lots) - len(places))
    return count * len([one for one in orders if one[:len(places)] == places])


def places_begun(lots, row):
    """The places of some lots in the order in which a row begins with them; None if it does not, lot by lot."""
    places = ()
    while row:
        first = [k for k in range(len(lots)) if row[0] in lots[k]][0]
        begun = row[:len(lots[first])]
        if not is_within(begun, lots[first]):
            return None
        places = places + (first,)
        row = row[len(begun):]
    return places


def draw_place(web, row, other):
    """The place of a pair of rows in the row of all that draw a web, ascending."""
    if len(row) != web[0] or len(other) != web[0]:
        raise Unfit()
    found = drawn(row, other)
    if found != web:
        raise NotDrawn(found)
    plan = row_plan(tree_of(web))
    # Before it come those that go on, behind the same begin, with a lesser thing.
    begins = [row[:k] + (x,) for k in range(len(row)) for x in range(row[k]) if x not in row[:k]]
    return sum([count_begun(plan, begin) for begin in begins])


def twisted(row, other):
    """The first lot of four things that are twisted in two rows; None if there is none."""
    check_sizes(row, other)
    for lot in lots_of(len(row), 4):
        a, b, c, d = [x for x in row if x in lot]
        if [x for x in other if x in lot] in ([b, d, a, c], [c, a, d, b]):
            return lot
    return None
