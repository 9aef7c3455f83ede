"""Lots of things, and the order of lots."""

from piecetrees.looks import is_integer


def is_thing(size, value):
    """Whether a value is a thing of a size."""
    return is_integer(value) and 0 <= value < size


def is_lot(size, value):
    """Whether a value is a lot of a size."""
    if not isinstance(value, tuple) or not all([is_thing(size, x) for x in value]):
        return False
    return all([value[k] < value[k + 1] for k in range(len(value) - 1)])


def lots_of(size, many):
    """All lots of so many things, ascending."""
    lots = [()]
    for _ in range(many):
        lots = [lot + (x,) for lot in lots for x in range(lot[-1] + 1 if lot else 0, size)]
    return lots


def all_lots(size):
    """All lots of a size, in order."""
    return [lot for many in range(size + 1) for lot in lots_of(size, many)]


def in_order(lots):
    """Some lots in the order of lots."""
    return sorted(lots, key=lambda lot: (len(lot), lot))


def outside(size, lot):
    """The lot of the things that are not in a lot."""
    return tuple([x for x in range(size) if x not in lot])


def joined(lot, other):
    """The lot of the things that are in one lot at least."""
    return tuple(sorted(set(lot + other)))


def is_within(lot, other):
    """Whether one lot is in another one."""
    return all([x in other for x in lot])


def reached_from(start, nexts):
    """What is reached from a start, step by step, by a function that tells what comes next, in the order found."""
    found = [start]
    done = 0
    while done < len(found):
        for one in nexts(found[done]):
            if one not in found:
                found.append(one)
        done += 1
    return found
