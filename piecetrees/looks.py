"""Things, looks and tables, and the tables that are made of them."""

from piecetrees.bounds import MAX_LOOK, MAX_THINGS
from piecetrees.errors import TooMany


def is_integer(value):
    """Whether a value is an integer."""
    # Python counts True and False among the ints, the document does not.
    return isinstance(value, int) and not isinstance(value, bool)


def is_size(value):
    """Whether a value is the size of some table."""
    return is_integer(value) and 0 <= value <= MAX_THINGS


def is_look(value):
    """Whether a value is a look."""
    return is_integer(value) and 0 <= value <= MAX_LOOK


def is_tuple_of(value, many):
    """Whether a value is a tuple of so many items."""
    return isinstance(value, tuple) and len(value) == many


def table_error(value):
    """What is first wrong with a value as a table; None for a table."""
    if not is_tuple_of(value, 2) or not is_size(value[0]):
        return "size"
    size, rows = value
    if not is_tuple_of(rows, size):
        return "rows"
    # The form of all rows is told ahead of any item in them.
    for x in range(size):
        if not is_tuple_of(rows[x], size):
            return x
    return look_error(size, rows)


def look_error(size, rows):
    """The first pair (x, y) whose item is none that a table has there."""
    for x in range(size):
        for y in range(size):
            if not is_look(rows[x][y]) or (x == y and rows[x][y] != 0):
                return (x, y)
    return None


def is_even(table):
    """Whether of any two things each looks as the other looks back."""
    return turned(table) == table


def has_plain_looks(table):
    """Whether a table has no looks but 0 and 1."""
    return all([look <= 1 for row in table[1] for look in row])


def is_web(table):
    """Whether a table is even and has no looks but 0 and 1."""
    return has_plain_looks(table) and is_even(table)


def is_order(table):
    """Whether looking 1 in a table is being ahead in an order."""
    size, rows = table
    if not has_plain_looks(table):
        return False
    ahead = [(x, y) for x in range(size) for y in range(size) if rows[x][y] == 1]
    # Two things that look 1 on one another fail here, too: rows[x][x] is 0.
    return all([rows[x][z] == 1 for x, y in ahead for z in range(size) if rows[y][z] == 1])


def is_course(table):
    """Whether of any two things just one looks 1 on the other, else 0."""
    size, rows = table
    if not has_plain_looks(table):
        return False
    return all([rows[x][y] != rows[y][x] for x in range(size) for y in range(x)])


def picked(table, things):
    """The table in which each place is the thing that stands there."""
    rows = table[1]
    return (len(things), tuple([tuple([rows[x][y] for y in things]) for x in things]))


def part(table, lot):
    """The table of the things of a lot."""
    return picked(table, lot)


def turned(table):
    """The table in which each thing looks as it was looked on."""
    size, rows = table
    return (size, tuple([tuple([rows[y][x] for y in range(size)]) for x in range(size)]))


def turned_within(table, lot):
    """The table in which the things of a lot look on one another as they were looked on, all else staying."""
    size, rows = table
    return (size, tuple([
        tuple([rows[y][x] if x in lot and y in lot else rows[x][y] for y in range(size)])
        for x in range(size)
    ]))


def renamed(table, naming):
    """The table in which each thing has the new number that a naming tells."""
    return picked(table, [naming.index(new) for new in range(len(naming))])


def painted(table, paints):
    """The table with the look that a dict has for each look."""
    size, rows = table
    # What a thing looks on itself stays 0, whatever the dict has for 0.
    return (size, tuple([
        tuple([0 if x == y else paints[rows[x][y]] for y in range(size)])
        for x in range(size)
    ]))


def with_look(table, thing, other, look):
    """The table in which a thing has another look on another thing."""
    size, rows = table
    row = rows[thing][:other] + (look,) + rows[thing][other + 1:]
    return (size, rows[:thing] + (row,) + rows[thing + 1:])


def put_in(table, thing, other):
    """The table with all things of another one in the place of a thing."""
    size, rows = table
    if size - 1 + other[0] > MAX_THINGS:
        raise TooMany(MAX_THINGS)
    own = rows[thing]
    wide = [row[:thing] + (row[thing],) * other[0] + row[thing + 1:] for row in rows]
    inner = [own[:thing] + row + own[thing + 1:] for row in other[1]]
    return (size - 1 + other[0], tuple(wide[:thing] + inner + wide[thing + 1:]))
