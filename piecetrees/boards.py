"""Boards: tables that change by edits, which can be taken back."""

from piecetrees.bounds import MAX_EDITS
from piecetrees.edits import batched, check_table, check_things, edited, is_piece_of
from piecetrees.errors import (
    NotLot, NotPiece, NothingToRedo, NothingToUndo, NoVersion, PieceError, Split, TooManyEdits,
)
from piecetrees.firm import is_firm
from piecetrees.knots import knot_of, knots, strong
from piecetrees.lots import is_lot, is_thing
from piecetrees.pieces import least_piece, pieces
from piecetrees.texts import table_text
from piecetrees.trees import tree_of


class Board:
    """A table that changes by edits."""

    def __init__(self, value):
        check_table(value)
        self._strong = ()
        self._back = ()
        self._show((value,))
        self._news = ((), ())

    @property
    def table(self):
        """The table that is there now."""
        return self._table

    @property
    def tree(self):
        """The tree of the table."""
        return self._tree

    @property
    def version(self):
        """How many edits stand."""
        return len(self._tables) - 1

    def __len__(self):
        return len(self._table[1])

    def __getitem__(self, at):
        if not is_thing(len(self._strong), at):
            raise NotPiece(at)
        return self._strong[at]

    def __contains__(self, x):
        return is_piece_of(self._table, x)

    def __iter__(self):
        return iter(self._strong)

    def __eq__(self, other):
        return isinstance(other, Board) and self._table == other._table

    def __str__(self):
        return str(table_text(self._table))

    def look(self, thing, other):
        """How a thing looks on another one."""
        check_things(self._table, thing, other)
        return self._table[1][thing][other]

    def piece(self, lot):
        """The least piece that a lot is in."""
        self._check_lot(lot, 0)
        return least_piece(self._table, lot)

    def knot(self, lot):
        """The word, the looks and the sons, as lots, of the least strong piece that two things or more are in."""
        self._check_lot(lot, 2)
        piece = knot_of(self._table, lot)
        return [knot[1:] for knot in knots(self._table) if knot[0] == piece][0]

    def _check_lot(self, lot, least):
        """Raises NotLot for a value that is no lot of so many things at least."""
        if not is_lot(len(self), lot) or len(lot) < least:
            raise NotLot(lot)

    def add(self, looks, back):
        """A thing more: how the others look on it, and how it looks back."""
        return self._edit("add", (looks, back))

    def drop(self, thing):
        """A thing goes."""
        return self._edit("drop", (thing,))

    def paint(self, thing, other, look):
        """How a thing looks on another one becomes another look."""
        return self._edit("paint", (thing, other, look))

    def turn(self, lot):
        """The things of a piece look on one another as they were looked on."""
        return self._edit("turn", (lot,))

    def rename(self, naming):
        """Each thing gets its new number."""
        return self._edit("rename", (naming,))

    def put(self, thing, table):
        """Another table in the place of a thing."""
        return self._edit("put", (thing, table))

    def batch(self, edits):
        """Several edits, done as one."""
        return self._settle(batched(self._table, edits))

    def _edit(self, word, given):
        """Does the edit of a word; returns the new version."""
        return self._settle(edited(self._table, word, given))

    def _settle(self, table):
        """Takes the table behind an edit, if the board may have it; returns the new version."""
        self._check(table)
        if self.version >= MAX_EDITS:
            raise TooManyEdits()
        self._back = ()
        return self._show(self._tables + (table,))

    def _check(self, table):
        """Raises what keeps the board from having a table: nothing does."""

    def _show(self, tables):
        """Takes the tables of all versions up to now; returns the version."""
        before = self._strong
        self._tables = tables
        self._table = tables[-1]
        self._tree = tree_of(self._table)
        self._strong = strong(self._table)
        gone = tuple([lot for lot in before if lot not in self._strong])
        self._news = (gone, tuple([lot for lot in self._strong if lot not in before]))
        return self.version

    def undo(self):
        """Takes back the last edit that stands; returns the version then."""
        if self.version == 0:
            raise NothingToUndo()
        self._back = self._back + (self._table,)
        return self._show(self._tables[:-1])

    def redo(self):
        """Does the edit again that was taken back last; returns the version then."""
        if not self._back:
            raise NothingToRedo()
        table = self._back[-1]
        self._back = self._back[:-1]
        return self._show(self._tables + (table,))

    def at(self, version):
        """The table when so many edits stood."""
        if not is_thing(len(self._tables), version):
            raise NoVersion(version)
        return self._tables[version]

    def news(self):
        """The strong pieces that the last edit, undo or redo made go, and those that it made come."""
        return self._news

    def copy(self):
        """A board with the same table, edits, edits taken back, and news."""
        other = Board(self._table)
        other._restore(self._kept())
        return other

    def attempt(self, work):
        """What a function of the board returns; behind an error of the package all is as ahead of it."""
        kept = self._kept()
        try:
            return work(self)
        except PieceError:
            self._restore(kept)
            raise

    def _kept(self):
        """All that makes out what the board is now."""
        return (self._tables, self._back, self._news)

    def _restore(self, kept):
        """Makes the board what it was when this was kept."""
        tables, back, news = kept
        self._show(tables)
        self._back = back
        self._news = news


class KeptBoard(Board):
    """A board whose table stays firm."""

    def __init__(self, value):
        Board.__init__(self, value)
        self._check(self._table)

    def _check(self, table):
        """Raises Split for a table that is not firm."""
        if not is_firm(table):
            raise Split(paper_of(table))

    def copy(self):
        """A kept board with the same table, edits, edits taken back, and news."""
        other = KeptBoard(self._table)
        other._restore(self._kept())
        return other


def paper_of(table):
    """Why a table is not firm: (), if it has too few things, else a piece."""
    if table[0] < 3:
        return ()
    return [lot for lot in pieces(table) if 2 <= len(lot) < table[0]][0]
