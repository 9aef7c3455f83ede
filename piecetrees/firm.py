"""Firm tables, and the critical ones among them."""

from piecetrees.bounds import MAX_THINGS
from piecetrees.errors import Unfit
from piecetrees.looks import is_course, is_web, part
from piecetrees.lots import all_lots, lots_of, outside
from piecetrees.pieces import least_piece

COURSE_WORDS = ("ring", "bent", "comb")


def is_firm(table):
    """Whether a table has three things or more, and no pieces but those each table has."""
    size = table[0]
    # Each other piece of two things or more has in it the least piece of two of its things.
    return size >= 3 and all([len(least_piece(table, lot)) == size for lot in lots_of(size, 2)])


def is_firm_lot(table, lot):
    """Whether the part of a lot is firm."""
    return is_firm(part(table, lot))


def firm_lots(table):
    """All firm lots, in order."""
    return tuple([lot for lot in all_lots(table[0]) if is_firm_lot(table, lot)])


def first_firm(table):
    """The first firm lot; None if there is none."""
    # Each firm lot has one of three things or of four in it.
    for many in (3, 4):
        for lot in lots_of(table[0], many):
            if is_firm_lot(table, lot):
                return lot
    return None


def leaves_firm(table, lot):
    """Whether the things that are not in a lot are a firm lot."""
    return is_firm_lot(table, outside(table[0], lot))


def is_critical(table):
    """Whether a table is firm, and not without any one of its things."""
    return is_firm(table) and not any([leaves_firm(table, (x,)) for x in range(table[0])])


def half_web(size):
    """The critical web of an even size in which half of the things are tied to half of the others."""
    if size % 2 != 0 or not 4 <= size <= MAX_THINGS:
        raise Unfit()
    return half_table(size)


def half_table(size):
    """The table of half_web, for an even size."""
    half = size // 2
    # Of two tied things the greater one is behind the half, by the lesser one at least.
    return (size, tuple([
        tuple([int(min(x, y) < half <= max(x, y) - min(x, y)) for y in range(size)])
        for x in range(size)
    ]))


def course_of(word, size):
    """The critical course of an odd size that a word tells."""
    if size % 2 != 1 or not 3 <= size <= MAX_THINGS or word not in COURSE_WORDS:
        raise Unfit()
    return course_table(word, size)


def course_table(word, size):
    """The table of course_of, for an odd size."""
    return (size, tuple([
        tuple([int(x != y and leads(word, size, x, y)) for y in range(size)])
        for x in range(size)
    ]))


def leads(word, size, x, y):
    """Whether in the course of a word a thing looks 1 on another one."""
    half = size // 2
    if word == "bent" and min(x, y) > half:
        return x > y
    if word == "comb" and x == size - 1:
        return y % 2 == 0
    if word == "comb" and y == size - 1:
        return x % 2 == 1
    if word == "comb":
        return x < y
    return (y - x) % size <= half


def critical_word(table):
    """Which of the known critical webs and courses a table is but for names; None if none."""
    if not is_critical(table):
        return None
    size = table[0]
    # As many things looking 1 on as many others tell the known ones of a size apart.
    if is_web(table):
        return "half" if marks(table) == marks(half_table(size)) else "rest"
    for word in COURSE_WORDS:
        if is_course(table) and marks(table) == marks(course_table(word, size)):
            return word
    return None


def marks(table):
    """On how many things each one looks 1, ascending; for tables of looks 0 and 1."""
    return sorted([sum(row) for row in table[1]])
