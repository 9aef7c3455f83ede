"""The knots of the tree, and all pieces read off it."""

from piecetrees.errors import NotPiece, TooFar, Unfit
from piecetrees.lots import all_lots, in_order, is_within
from piecetrees.trees import check_tree, knots_in, things_in, tree_of


def strong(table):
    """All strong pieces, in order."""
    return tuple([(x,) for x in range(table[0])] + [knot[0] for knot in knots(table)])


def knots(table):
    """The piece, the word, the looks and the sons, as lots, of each knot, in order of the pieces."""
    found = {}
    for word, looks, sons in knots_in(tree_of(table)):
        piece = lot_in((word, looks, sons))
        found[piece] = (piece, word, looks, son_lots(sons))
    return tuple([found[piece] for piece in in_order(list(found))])


def lot_in(tree):
    """The lot of the things of a tree."""
    return tuple(sorted(things_in(tree)))


def son_lots(sons):
    """Trees, sons of a knot, as lots."""
    return tuple([lot_in(son) for son in sons])


def knot_of(table, lot):
    """The least strong piece that a lot of two things or more is in."""
    if len(lot) < 2:
        raise Unfit()
    # Those that the lot is in are in one another, and they are in order.
    return [knot[0] for knot in knots(table) if is_within(lot, knot[0])][0]


def pieces_of(size, tree):
    """All pieces, in order, read off the tree."""
    check_tree(size, tree)
    single = [(x,) for x in range(size)]
    return tuple(in_order([()] + single + [lot for knot in knots_in(tree) for lot in knot_joins(knot)]))


def knot_joins(knot):
    """The joins of two sons and more of a knot that are pieces."""
    lots = son_lots(knot[2])
    return [tuple(sorted([x for k in places for x in lots[k]])) for places in join_places(knot[0], len(lots))]


def join_places(word, many):
    """The lots of places of so many sons, under a word, the joins of which are pieces."""
    if word == "all":
        return [places for places in all_lots(many) if len(places) >= 2]
    if word == "line":
        return [tuple(range(low, high)) for high in range(many + 1) for low in range(high - 1)]
    return [tuple(range(many))]


def piece_at(size, tree, place):
    """The piece at a place of the row of all pieces."""
    found = pieces_of(size, tree)
    if place >= len(found):
        raise TooFar(len(found))
    return found[place]


def place_of(size, tree, lot):
    """The place of a piece in the row of all pieces."""
    found = pieces_of(size, tree)
    if lot not in found:
        raise NotPiece(lot)
    return found.index(lot)
