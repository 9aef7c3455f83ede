"""Pieces: lots that no thing outside tells apart."""

from piecetrees.errors import NotPiece, Unfit
from piecetrees.looks import picked
from piecetrees.lots import all_lots, joined, outside


def is_piece(table, lot):
    """Whether a lot is a piece."""
    return telling(table, lot) is None


def telling(table, lot):
    """The first thing outside, and two things in a lot that it tells apart; None for a piece."""
    size, rows = table
    for z in outside(size, lot):
        # Of two things that z tells apart one is unlike the lot's first:
        # so the first two that it tells apart begin with that one.
        for y in lot:
            x = lot[0]
            if rows[z][x] != rows[z][y] or rows[x][z] != rows[y][z]:
                return (z, x, y)
    return None


def least_piece(table, lot):
    """The least piece that a lot is in."""
    return joined(lot, tuple([told[0] for told in growing(table, lot)]))


def growing(table, lot):
    """What telling tells, step by step, till the lot has grown to a piece."""
    steps = []
    told = telling(table, lot)
    while told is not None:
        steps.append(told)
        lot = joined(lot, told[:1])
        told = telling(table, lot)
    return tuple(steps)


def pieces(table):
    """All pieces, in order."""
    return tuple([lot for lot in all_lots(table[0]) if is_piece(table, lot)])


def between(table, lot, other):
    """The look of the things of one piece on those of another one, and the one back."""
    if not lot or not other or any([x in other for x in lot]):
        raise Unfit()
    check_pieces(table, (lot, other))
    rows = table[1]
    return (rows[lot[0]][other[0]], rows[other[0]][lot[0]])


def quotient(table, lots):
    """The table of the places of pieces that have, all told, each thing once."""
    check_pieces(table, lots)
    return picked(table, [lot[0] for lot in lots])


def check_pieces(table, lots):
    """Raises NotPiece with the first lot that is no piece, if there is one."""
    for lot in lots:
        if not is_piece(table, lot):
            raise NotPiece(lot)
