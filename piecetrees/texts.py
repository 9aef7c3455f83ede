"""The texts of tables."""

from piecetrees.bounds import MAX_LOOK, MAX_THINGS
from piecetrees.errors import BadText


def table_text(table):
    """The text of a table."""
    size, rows = table
    return "\n".join([str(size), *[row_text(rows[x], x) for x in range(size)]])


def row_text(row, thing):
    """The line of the row of a thing."""
    return " ".join(["-" if y == thing else str(row[y]) for y in range(len(row))])


def parse_table(value):
    """The table of a text."""
    if not isinstance(value, str):
        raise BadText(0)
    lines = value.split("\n")
    size = number_told(lines[0], MAX_THINGS)
    if size is None:
        raise BadText(0)
    rows = []
    for x in range(size):
        row = row_told(lines[x + 1], size, x) if x + 1 < len(lines) else None
        if row is None:
            raise BadText(x + 1)
        rows.append(row)
    if len(lines) > size + 1:
        raise BadText(size + 1)
    return (size, tuple(rows))


def row_told(line, size, thing):
    """The row of a thing that a line is the text of; None if of none."""
    words = line.split(" ")
    if len(words) != size or words[thing] != "-":
        return None
    row = [0 if y == thing else number_told(words[y], MAX_LOOK) for y in range(size)]
    return None if None in row else tuple(row)


def number_told(word, most):
    """The number from 0 to most that a word is the text of; None if of none."""
    # int also reads noughts ahead, signs, blanks, "_" and other figures.
    if len(word) > len(str(most)) or not (word.isascii() and word.isdigit()):
        return None
    number = int(word)
    return number if number <= most and str(number) == word else None
