"""KeptBoard ([L5])."""

import random

import plain
import plain_boards
from helper import FAN, LINE, RING, odd_values
from piecetrees.boards import Board, KeptBoard
from piecetrees.errors import (
    BadBatch, BadLooks, BadNaming, NotPiece, NotTable, NotThing, PieceError, Rejected, Split, TooMany, TooManyEdits,
)
from plain_boards import WORDS, PlainBoard, bent_arguments, right_arguments
from test_boards import BoardCase

PATH = plain.by(4, lambda x, y: int(abs(x - y) == 1))
LONG = plain.by(5, lambda x, y: int(abs(x - y) == 1))


def firm_tables(seed):
    rng = random.Random(seed)
    return [plain.drawn_firm(rng, size) for size in (3, 4, 5, 6, 7, 8) for _ in range(3)] + [RING, PATH, LONG]


class KeptBoards(BoardCase):
    def test_made(self):
        for table in firm_tables(270):
            board = KeptBoard(table)
            self.assertIsInstance(board, Board)
            self.check_state(board, PlainBoard(table, kept=True))
        for value in odd_values() + [(3, ((0, 0, 1), (0, 0, 1), (1, 1, 1)))]:
            error = plain_boards.table_error(value)
            if error is not None:
                self.check_error(NotTable(error), KeptBoard, value)

    def test_split(self):
        for size in range(9):
            for seed in range(271, 273):
                for table in plain.drawn_tables(seed, size):
                    paper = plain_boards.paper(table)
                    if paper is None:
                        self.assertEqual(KeptBoard(table).table, table)
                    else:
                        self.check_error(Split(paper), KeptBoard, table)
        for table, paper in (((0, ()), ()), ((1, ((0,),)), ()), ((2, ((0, 5), (7, 0))), ()), (FAN, (0, 1)), (LINE, (0, 1)), (plain.by(8, lambda x, y: 1), (0, 1))):
            self.check_error(Split(paper), KeptBoard, table)

    def test_edits(self):
        rng = random.Random(274)
        told = {}
        for table in firm_tables(275):
            board, model = KeptBoard(table), PlainBoard(table, kept=True)
            for word in WORDS:
                alike = [((1,) * table[0], (1,) * table[0])] if word == "add" else []
                for given in [right_arguments(rng, table, word) for _ in range(4)] + alike:
                    wanted = self.check_done(board, model, word, *given)
                    told.setdefault(word, []).append(type(wanted).__name__)
                    if not isinstance(wanted, PieceError):
                        self.check_done(board, model, "undo")
            self.check_state(board, model)
        self.assertEqual({word for word in WORDS if "Split" in told[word]}, {"add", "drop", "paint", "put"})
        self.assertTrue(all("int" in told[word] for word in WORDS if word != "put"))

    def test_ahead_of_it_all_other_errors(self):
        rng = random.Random(276)
        for table in (RING, PATH, plain.drawn_firm(rng, 8)):
            board, model = KeptBoard(table), PlainBoard(table, kept=True)
            for word in WORDS:
                for given in bent_arguments(rng, table, word):
                    if not isinstance(self.check_done(board, model, word, *given), PieceError):
                        self.check_done(board, model, "undo")
            self.check_state(board, model)
        full = KeptBoard(plain.drawn_firm(rng, 8))
        self.check_error(TooMany(8), full.add, (0,) * 8, (0,) * 8)
        self.check_error(TooMany(8), full.put, 0, (2, ((0, 0), (0, 0))))
        board = KeptBoard(RING)
        self.check_error(Split(()), board.drop, 0)
        self.check_error(Split((0, 1)), board.put, 0, (2, ((0, 0), (0, 0))))
        self.check_error(Split(()), board.put, 0, (0, ()))
        self.check_error(Split((0, 1, 2)), board.add, (0, 0, 0), (0, 0, 0))
        self.check_error(Split((0, 1)), KeptBoard((3, ((0, 1, 1), (0, 0, 1), (1, 0, 0)))).paint, 2, 0, 0)
        for error, call in (
            (NotThing(3), lambda: board.drop(3)), (BadLooks(), lambda: board.add((), ())), (NotPiece((0, 1)), lambda: board.turn((0, 1))),
            (BadNaming(), lambda: board.rename((0, 1))), (NotTable("size"), lambda: board.put(0, None)), (BadBatch(), lambda: board.batch(7)),
            (Rejected(1), lambda: board.batch((("drop", (0,)), ("drop", (2,))))),
        ):
            self.check_error(error, call)
        self.assertEqual((board.table, board.version, board.news()), (RING, 0, ((), ())))

    def test_ahead_of_too_many_edits(self):
        board = KeptBoard(RING)
        for _ in range(40):
            board.turn((0, 1, 2))
        self.check_error(Split(()), board.drop, 0)
        self.check_error(Split((0, 1)), board.batch, (("paint", (0, 2, 1)), ("paint", (2, 0, 0))))
        self.check_error(TooManyEdits(), board.turn, ())
        self.check_error(TooManyEdits(), board.batch, (("drop", (0,)), ("add", ((0, 1), (1, 0)))))
        self.assertEqual((board.version, board.undo()), (40, 39))

    def test_batches(self):
        # Not firm midway alone, and not firm at the end.
        board = KeptBoard(RING)
        self.assertEqual(board.batch(()), 1)
        self.assertEqual(board.batch((("drop", (2,)), ("add", ((0, 1), (1, 0))))), 2)
        self.assertEqual(board.table, RING)
        self.assertEqual(board.batch((("drop", (2,)), ("drop", (1,)), ("put", (0, PATH)))), 3)
        self.assertEqual((board.table, len(board.news()[1])), (PATH, 2))
        self.check_error(Split(()), board.batch, (("drop", (0,)),) * 2)
        self.check_error(Split(()), board.batch, (("drop", (0,)),) * 4)
        self.check_error(Rejected(4), board.batch, (("drop", (0,)),) * 5)
        self.check_error(Split((1, 3)), board.batch, (("paint", (0, 1, 0)), ("paint", (1, 0, 0))))
        self.assertEqual((board.version, board.table), (3, PATH))
        rng = random.Random(277)
        told = {}
        for table in firm_tables(278):
            board, model = KeptBoard(table), PlainBoard(table, kept=True)
            for _ in range(8):
                now, edits = table, []
                for _ in range(rng.randint(0, 4)):
                    word = rng.choice(("drop", "add", "paint", "rename"))
                    given = right_arguments(rng, now, word)
                    if given is None or isinstance(plain_boards.edited(now, word, given), PieceError):
                        continue
                    now = plain_boards.edited(now, word, given)
                    edits.append((word, given))
                wanted = self.check_done(board, model, "batch", tuple(edits))
                told[type(wanted).__name__] = True
                if not isinstance(wanted, PieceError):
                    self.check_done(board, model, "undo")
        self.assertEqual(set(told), {"int", "Split"})

    def test_taken_back_and_done_again(self):
        rng = random.Random(279)
        for table in firm_tables(280):
            board, model = KeptBoard(table), PlainBoard(table, kept=True)
            for _ in range(16):
                word = rng.choice(("turn", "rename", "paint", "drop", "add", "undo", "redo"))
                given = () if word in ("undo", "redo") else right_arguments(rng, board.table, word)
                wanted = self.check_done(board, model, word, *given)
                if word in ("turn", "rename"):
                    self.assertIsInstance(wanted, int)
                self.assertTrue(plain.is_firm(board.table))
            self.check_state(board, model)

    def test_copies(self):
        board = KeptBoard(PATH)
        board.rename((3, 2, 1, 0))
        other = board.copy()
        self.assertIs(type(other), KeptBoard)
        self.check_error(Split((0, 2)), other.drop, 3)
        self.assertEqual((other.undo(), board.version, other.redo()), (0, 1, 1))

    def test_attempts(self):
        board = KeptBoard(PATH)

        def work(one):
            one.turn(())
            one.drop(0)

        self.check_error(Split((0, 2)), board.attempt, lambda one: one.drop(3))
        self.assertRaises(Split, board.attempt, work)
        self.assertEqual((board.table, board.version), (PATH, 0))
        self.assertEqual(board.attempt(lambda one: one.turn((0, 1, 2, 3))), 1)

    def test_methods_of_its_own(self):
        # Each method that the document lists for a class is defined in that class itself.
        for name in ("look", "piece", "knot", "add", "drop", "paint", "turn", "rename", "put", "batch", "undo", "redo", "at", "news", "copy", "attempt"):
            self.assertIn(name, vars(Board))
        for name in ("__len__", "__getitem__", "__contains__", "__iter__", "__eq__", "__str__", "table", "tree", "version", "__init__"):
            self.assertIn(name, vars(Board))
        for name in ("__init__", "copy"):
            self.assertIn(name, vars(KeptBoard))

    def test_by_name(self):
        self.assertEqual(KeptBoard(value=RING).table, RING)
