"""Edits of a table: each returns the table that comes, or raises what is wrong with its arguments."""

from piecetrees.bounds import BATCH, MAX_THINGS
from piecetrees.errors import BadBatch, BadLooks, BadNaming, NotPiece, NotTable, NotThing, PieceError, Rejected, TooMany
from piecetrees.looks import is_look, is_tuple_of, part, put_in, renamed, table_error, turned_within, with_look
from piecetrees.lots import is_lot, is_thing, outside
from piecetrees.pieces import is_piece
from piecetrees.rows import is_row


def check_table(value):
    """Raises NotTable for a value that is no table."""
    error = table_error(value)
    if error is not None:
        raise NotTable(error)


def check_thing(table, thing):
    """Raises NotThing for a value that is no thing of a table."""
    if not is_thing(table[0], thing):
        raise NotThing(thing)


def check_things(table, thing, other):
    """Raises NotThing for two values that are not two unlike things of a table."""
    check_thing(table, thing)
    check_thing(table, other)
    if thing == other:
        raise NotThing(other)


def with_thing(table, looks, back):
    """The table with a thing more: how the others look on it, and how it looks back."""
    size, rows = table
    for given in (looks, back):
        if not is_tuple_of(given, size) or not all([is_look(look) for look in given]):
            raise BadLooks()
    if size >= MAX_THINGS:
        raise TooMany(MAX_THINGS)
    return (size + 1, tuple([rows[x] + (looks[x],) for x in range(size)]) + (back + (0,),))


def without_thing(table, thing):
    """The table without a thing."""
    check_thing(table, thing)
    return part(table, outside(table[0], (thing,)))


def with_paint(table, thing, other, look):
    """The table in which a thing has another look on another thing."""
    check_things(table, thing, other)
    if not is_look(look):
        raise BadLooks()
    return with_look(table, thing, other, look)


def is_piece_of(table, value):
    """Whether a value is one of the pieces of a table."""
    return is_lot(table[0], value) and is_piece(table, value)


def with_turned(table, lot):
    """The table in which the things of a piece look on one another as they were looked on."""
    if not is_piece_of(table, lot):
        raise NotPiece(lot)
    return turned_within(table, lot)


def with_names(table, naming):
    """The table in which each thing has its new number."""
    if not is_row(table[0], naming):
        raise BadNaming()
    return renamed(table, naming)


def with_put(table, thing, other):
    """The table with another one in the place of a thing."""
    check_thing(table, thing)
    check_table(other)
    return put_in(table, thing, other)


EDITS = {
    "add": with_thing, "drop": without_thing, "paint": with_paint, "turn": with_turned, "rename": with_names,
    "put": with_put,
}
MANY_GIVEN = {"add": 2, "drop": 1, "paint": 3, "turn": 1, "rename": 1, "put": 2}


def edited(table, word, given):
    """The table behind the edit of a word with some arguments."""
    edit = EDITS[word]
    return edit(table, *given)


def is_edit(value):
    """Whether a value is a pair of the word of an edit and of the tuple of as many arguments as it takes."""
    if not is_tuple_of(value, 2) or not isinstance(value[0], str) or value[0] not in MANY_GIVEN:
        return False
    return is_tuple_of(value[1], MANY_GIVEN[value[0]])


def batched(table, edits):
    """The table behind several edits."""
    if not isinstance(edits, tuple) or len(edits) > BATCH or not all([is_edit(edit) for edit in edits]):
        raise BadBatch()
    for index in range(len(edits)):
        word, given = edits[index]
        try:
            table = edited(table, word, given)
        except PieceError:
            raise Rejected(index) from None
    return table
