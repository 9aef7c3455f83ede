"""Orders with the same pairs, and how pieces that are turned about lead from one to another."""

from piecetrees.bounds import MAX_ABOUTS
from piecetrees.errors import Unfit
from piecetrees.knots import knots
from piecetrees.looks import picked, turned_within
from piecetrees.lots import is_lot, lots_of
from piecetrees.pieces import check_pieces, is_piece


def same_pairs(order, other):
    """The first two things that are in order in just one of two orders; None if there are none."""
    if order[0] != other[0]:
        raise Unfit()
    for x, y in lots_of(order[0], 2):
        if are_in_order(order, x, y) != are_in_order(other, x, y):
            return (x, y)
    return None


def are_in_order(order, x, y):
    """Whether one of two things is ahead of the other."""
    return order[1][x][y] + order[1][y][x] == 1


def about(order, lot):
    """The order in which a piece is turned about."""
    check_pieces(order, (lot,))
    return turned_within(order, lot)


def about_way(order, other):
    """Pieces that, turned about one behind the other, lead from one order to another; None if none do."""
    if same_pairs(order, other) is not None:
        return None
    # Turning about leaves the strong pieces as they are, but turns all that is in them:
    # so the greater ones come ahead.
    found = knots(order)[::-1]
    way = []
    for piece, word, _, sons in found:
        lot = lot_apart(order, other, (piece, word, sons))
        while lot is not None:
            order = turned_within(order, lot)
            way.append(lot)
            lot = lot_apart(order, other, (piece, word, sons))
    return tuple(way)


def lot_apart(order, other, knot):
    """What to turn about next, that the sons of a knot be in the order of another one; None if they are."""
    piece, word, sons = knot
    firsts = [son[0] for son in sons]
    if picked(order, firsts) == picked(other, firsts):
        return None
    if word == "firm":
        # The pairs of a firm knot leave but two orders: one, and it turned.
        return piece
    now, then = in_line(order, firsts), in_line(other, firsts)
    low = [k for k in range(len(then)) if now[k] != then[k]][0]
    moved = now[low:now.index(then[low]) + 1]
    return tuple(sorted([x for son in sons if son[0] in moved for x in son]))


def in_line(order, things):
    """Things any two of which are in order, each ahead of those behind it."""
    ahead = [len([y for y in things if order[1][y][x] == 1]) for x in things]
    return [things[ahead.index(k)] for k in range(len(things))]


def about_way_holds(order, other, value):
    """Whether a value is what about_way may return, if it returns a tuple."""
    if same_pairs(order, other) is not None:
        return False
    if not isinstance(value, tuple) or len(value) > MAX_ABOUTS:
        return False
    for lot in value:
        if not is_lot(order[0], lot) or not is_piece(order, lot):
            return False
        order = turned_within(order, lot)
    return order == other
