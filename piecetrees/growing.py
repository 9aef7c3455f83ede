"""How firm lots grow, and which things may leave a firm table."""

from piecetrees.errors import NotFirm, Unfit
from piecetrees.firm import is_firm_lot, leaves_firm
from piecetrees.looks import part
from piecetrees.lots import is_lot, is_within, joined, lots_of, outside
from piecetrees.pieces import is_piece


def stand(table, lot, thing):
    """How a thing stands to a firm lot: firm with it, seeing it alike, or like one thing of it."""
    check_firm_lot(table, lot)
    if thing in lot:
        raise Unfit()
    wide = joined(lot, (thing,))
    if is_firm_lot(table, wide):
        return ("firm", None)
    if is_piece_within(table, wide, lot):
        return ("alike", None)
    return ("like", [x for x in lot if is_piece_within(table, wide, joined((x,), (thing,)))][0])


def check_firm_lot(table, lot):
    """Raises NotFirm for a lot that is not firm."""
    if not is_firm_lot(table, lot):
        raise NotFirm(lot)


def every_thing(table):
    """The lot of all things."""
    return tuple(range(table[0]))


def is_piece_within(table, lot, inner):
    """Whether a lot in another one is a piece of the part of that one."""
    return is_piece(part(table, lot), tuple([lot.index(x) for x in inner]))


def next_firm(table, lot):
    """The first lot of one or two things outside that makes a firm lot with a firm one; None if none does."""
    check_firm_lot(table, lot)
    free = outside(table[0], lot)
    for places in lots_of(len(free), 1) + lots_of(len(free), 2):
        more = tuple([free[k] for k in places])
        if is_firm_lot(table, joined(lot, more)):
            return more
    return None


def grown(table, lot):
    """Firm lots from one to that of all things of a firm table, each of one thing or two more."""
    check_firm_lot(table, every_thing(table))
    found = [lot]
    more = next_firm(table, lot)
    while more is not None:
        found.append(joined(found[-1], more))
        more = next_firm(table, found[-1])
    return tuple(found)


def grown_holds(table, lot, value):
    """Whether a value is what grown may return."""
    size = table[0]
    if not isinstance(value, tuple) or not value or not all([is_lot(size, one) for one in value]):
        return False
    if value[0] != lot or value[-1] != every_thing(table):
        return False
    if not all([is_step(value[k], value[k + 1]) for k in range(len(value) - 1)]):
        return False
    return all([is_firm_lot(table, one) for one in value])


def is_step(lot, other):
    """Whether a lot is in another one that has one thing or two more."""
    return is_within(lot, other) and len(other) - len(lot) in (1, 2)


def spared(table):
    """The lot of all things whose leaving leaves a firm table firm."""
    check_firm_lot(table, every_thing(table))
    return tuple([x for x in range(table[0]) if leaves_firm(table, (x,))])


def leavable(table):
    """The first lot of one thing or two whose leaving leaves a firm table firm; None if there is none."""
    check_firm_lot(table, every_thing(table))
    return first_leaving(table, lots_of(table[0], 1) + lots_of(table[0], 2))


def leavable_pair(table):
    """The first lot of two things whose leaving leaves a firm table firm; None if there is none."""
    check_firm_lot(table, every_thing(table))
    return first_leaving(table, lots_of(table[0], 2))


def first_leaving(table, lots):
    """The first of some lots whose leaving leaves a firm table; None if there is none."""
    for lot in lots:
        if leaves_firm(table, lot):
            return lot
    return None
