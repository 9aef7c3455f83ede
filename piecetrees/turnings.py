"""Turnings: orders of just the tied things of a web."""

from piecetrees.arrows import arrow_classes, arrows_of, clash, class_of
from piecetrees.bounds import MAX_LISTED
from piecetrees.errors import NotLoose, NotTurning, TooFar, TooMany
from piecetrees.knots import knots
from piecetrees.looks import has_plain_looks, is_tuple_of, table_error
from piecetrees.lots import is_thing


def turning(web):
    """Any turning; None if there is none."""
    if clash(web) is not None:
        return None
    return order_taking(web[0], [arrow for knot in tied_knots(web) for arrow in first_arrows(knot)])


def order_taking(size, arrows):
    """The table in which x looks 1 on y for each arrow (x, y), and else 0."""
    taken = {arrow: True for arrow in arrows}
    return (size, tuple([tuple([int((x, y) in taken) for y in range(size)]) for x in range(size)]))


def tied_knots(web):
    """The sons of each knot that ties them, and the classes of their table; None where all are tied."""
    return [
        (sons, None if word == "all" else arrow_classes((len(sons), looks)))
        for _, word, looks, sons in knots(web) if looks != (0,)
    ]


def arrows_between(sons, pairs):
    """The arrows from things of sons to things of others, for some pairs of places of sons."""
    return [(x, y) for at, to in pairs for x in sons[at] for y in sons[to]]


def pairs_ahead(places):
    """The pairs of each of some places and one behind it."""
    return [(places[k], places[m]) for k in range(len(places)) for m in range(k + 1, len(places))]


def first_arrows(knot):
    """The arrows between the sons of a knot that some turning takes."""
    sons, classes = knot
    return arrows_between(sons, pairs_ahead(list(range(len(sons)))) if classes is None else classes[0])


def arrows_at(knot):
    """The arrows between the sons of a knot that turnings take: a list for each way to do so."""
    sons, classes = knot
    if classes is not None:
        return [arrows_between(sons, pairs) for pairs in classes]
    return [arrows_between(sons, pairs_ahead(places)) for places in orderings(len(sons))]


def orderings(many):
    """All orders of so many places."""
    found = [()]
    for _ in range(many):
        found = [places + (k,) for places in found for k in range(many) if k not in places]
    return found


def turning_error(web, value):
    """What is first wrong with a value as a turning of a web; None for a turning."""
    size, rows = web
    if table_error(value) is not None or value[0] != size or not has_plain_looks(value):
        return "table"
    looks = value[1]
    for x, y in pairs_ahead(list(range(size))):
        # Of two tied things just one looks 1 on the other, of others none does.
        if looks[x][y] + looks[y][x] != rows[x][y]:
            return ("tie", x, y)
    for x, y, z in [(x, y, z) for x in range(size) for y in range(size) for z in range(size)]:
        if looks[x][y] == 1 and looks[y][z] == 1 and looks[x][z] == 0:
            return ("on", x, y, z)
    return None


def check_turning(web, order):
    """Raises NotTurning for a table that is no turning."""
    error = turning_error(web, order)
    if error is not None:
        raise NotTurning(error)


def turning_count(web):
    """How many turnings there are."""
    return 0 if clash(web) is not None else count_taking(tied_knots(web), [])


def count_taking(tied, taken):
    """How many turnings take some arrows, for the knots of a web with ties, no class of which clashes."""
    count = 1
    for knot in tied:
        count = count * count_at(knot, taken)
    return count


def count_at(knot, taken):
    """In how many ways a turning that takes some arrows takes those between the sons of a knot."""
    sons, classes = knot
    at = {x: k for k in range(len(sons)) for x in sons[k]}
    pairs = [(at[x], at[y]) for x, y in taken if x in at and y in at and at[x] != at[y]]
    if classes is None:
        return count_orders(len(sons), pairs)
    return len([one for one in classes if all([pair in one for pair in pairs])])


def count_orders(many, pairs):
    """In how many orders of so many places the first of each of some pairs is ahead of the second."""
    ahead = [sum([1 << k for k in range(many) if (k, m) in pairs]) for m in range(many)]
    # The bits of a number tell which places stand already; its item, in how many orders.
    ways = [1] + [0] * ((1 << many) - 1)
    for placed in range(1 << many):
        for k in range(many):
            if placed & (1 << k) == 0 and ahead[k] & placed == ahead[k]:
                ways[placed + (1 << k)] = ways[placed + (1 << k)] + ways[placed]
    return ways[-1]


def turnings(web):
    """All turnings, ascending."""
    if turning_count(web) > MAX_LISTED:
        raise TooMany(MAX_LISTED)
    taken = [[]] if clash(web) is None else []
    for ways in [arrows_at(knot) for knot in tied_knots(web)]:
        taken = [one + more for one in taken for more in ways]
    return tuple(sorted([order_taking(web[0], one) for one in taken]))


def nth_turning(web, place):
    """The turning at a place of the row of all, ascending."""
    count = turning_count(web)
    if place >= count:
        raise TooFar(count)
    tied = tied_knots(web)
    taken = []
    for x, y in ties_of(web):
        # The turnings in which x looks 0 on y come ahead of those in which it looks 1.
        fewer = count_taking(tied, taken + [(y, x)])
        taken = taken + [(y, x) if place < fewer else (x, y)]
        place = place if place < fewer else place - fewer
    return order_taking(web[0], taken)


def ties_of(web):
    """All pairs x < y of tied things, ascending."""
    return [(x, y) for x, y in arrows_of(web) if x < y]


def turning_place(web, order):
    """The place of a turning in the row of all, ascending."""
    check_turning(web, order)
    tied = tied_knots(web)
    taken = []
    place = 0
    for x, y in ties_of(web):
        if order[1][x][y] == 1:
            place = place + count_taking(tied, taken + [(y, x)])
        taken = taken + [(x, y) if order[1][x][y] == 1 else (y, x)]
    return place


def loose(web, order):
    """The first arrow of each loose class of a turning, ascending."""
    check_turning(web, order)
    return tuple([arrow for arrow in taken_firsts(web, order) if turned_about(web, order, arrow) is not None])


def taken_firsts(web, order):
    """The first arrow of each class that a turning takes, ascending."""
    return [one[0] for one in arrow_classes(web) if takes(order, one[0])]


def takes(order, arrow):
    """Whether a turning takes an arrow."""
    return order[1][arrow[0]][arrow[1]] == 1


def turned_about(web, order, arrow):
    """The turning in which the class of an arrow is turned about; None if it is not taken, or not loose."""
    if not takes(order, arrow):
        return None
    gone = class_of(web, arrow)
    left = [one for one in arrows_of(order) if one not in gone]
    other = order_taking(web[0], left + [(y, x) for x, y in gone])
    return other if turning_error(web, other) is None else None


def class_turned(web, order, arrow):
    """The turning in which the loose class of an arrow is turned about."""
    check_turning(web, order)
    other = turned_about(web, order, arrow)
    if other is None:
        raise NotLoose(arrow)
    return other


def classes_apart(web, order, other):
    """How many classes one turning takes and another one does not."""
    check_turning(web, order)
    check_turning(web, other)
    return len(firsts_apart(web, order, other))


def firsts_apart(web, order, other):
    """The first arrow of each class that one turning takes and another one does not, ascending."""
    return [arrow for arrow in taken_firsts(web, order) if not takes(other, arrow)]


def turning_way(web, order, other):
    """Arrows, as few as can be, the classes of which turned about lead from one turning to another one."""
    check_turning(web, order)
    check_turning(web, other)
    way = []
    while order != other:
        # One of the classes that part the two is loose: so each step leaves one fewer.
        arrow = [one for one in firsts_apart(web, order, other) if turned_about(web, order, one) is not None][0]
        order = turned_about(web, order, arrow)
        way.append(arrow)
    return tuple(way)


def turning_way_holds(web, order, other, value):
    """Whether a value is what turning_way may return."""
    many = classes_apart(web, order, other)
    if not is_tuple_of(value, many) or not all([is_arrow(web, one) for one in value]):
        return False
    for arrow in value:
        order = turned_about(web, order, arrow)
        if order is None:
            return False
    return order == other


def is_arrow(web, value):
    """Whether a value is an arrow of a web."""
    size, rows = web
    return is_tuple_of(value, 2) and all([is_thing(size, x) for x in value]) and rows[value[0]][value[1]] == 1
