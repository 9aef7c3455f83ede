"""undo, redo, at, news, copy, attempt ([L3]), behind one another in drawn orders."""

import random

import plain
from helper import FAN, LINE, RING, ErrorCase, odd_values
from piecetrees.boards import Board, KeptBoard
from piecetrees.errors import BadLooks, NothingToRedo, NothingToUndo, NotPiece, NotThing, NoVersion, PieceError, Unfit
from plain_boards import WORDS, PlainBoard, right_arguments
from test_boards import BoardCase, tables_of_boards


class HistoryCase(BoardCase):
    def some_step(self, rng, board, model):
        """One edit, undo or redo, right or not."""
        table = model.tables[-1]
        word = rng.choice(WORDS + ("batch", "undo", "undo", "redo", "redo", "wrong"))
        if word == "wrong":
            self.check_done(board, model, rng.choice(("drop", "turn", "rename")), rng.choice((None, -1, (7, 7), ())))
        elif word in ("undo", "redo"):
            self.check_done(board, model, word)
        elif word == "batch":
            self.check_done(board, model, word, (("turn", (rng.choice(plain.pieces(table)),)), ("rename", (tuple(range(table[0])),))))
        else:
            given = right_arguments(rng, table, word)
            if given is not None:
                self.check_done(board, model, word, *given)


class Steps(HistoryCase):
    def test_drawn_steps(self):
        rng = random.Random(260)
        for table in tables_of_boards()[::2]:
            board, model = Board(table), PlainBoard(table)
            for _ in range(25):
                self.some_step(rng, board, model)
                self.assertEqual(repr(board.news()), repr(model.news))
            self.check_state(board, model)

    def test_copies_go_their_own_ways(self):
        rng = random.Random(261)
        for table in tables_of_boards()[1::4]:
            pairs = [(Board(table), PlainBoard(table))]
            for _ in range(20):
                board, model = rng.choice(pairs)
                self.some_step(rng, board, model)
                if rng.random() < 0.3 and len(pairs) < 6:
                    other = board.copy()
                    self.assertIs(type(other), Board)
                    self.assertIsNot(other, board)
                    self.assertEqual(other, board)
                    pairs.append((other, model.copy()))
            for board, model in pairs:
                self.check_state(board, model)
                self.assertEqual([board.undo() for _ in range(board.version)], list(range(len(model.tables) - 1))[::-1])
                self.assertEqual(board.table, model.tables[0])

    def test_nothing_to_take_back(self):
        board = Board(FAN)
        self.check_error(NothingToUndo(), board.undo)
        self.check_error(NothingToRedo(), board.redo)
        board.drop(0)
        self.check_error(NothingToRedo(), board.redo)
        self.assertEqual((board.undo(), board.redo(), board.undo()), (0, 1, 0))
        self.check_error(NothingToUndo(), board.undo)
        # An edit that is done forgets all that were taken back; one that raises does not.
        self.check_error(NotThing(3), board.drop, 3)
        self.assertEqual((board.redo(), board.undo(), board.turn(())), (1, 0, 1))
        self.check_error(NothingToRedo(), board.redo)

    def test_several_taken_back(self):
        board = Board(LINE)
        board.paint(0, 1, 5)
        board.paint(1, 0, 6)
        board.paint(2, 0, 7)
        tables = [board.at(k) for k in range(4)]
        self.assertEqual([board.undo(), board.undo(), board.undo()], [2, 1, 0])
        self.assertEqual([(board.redo(), board.table == tables[k]) for k in (1, 2, 3)], [(1, True), (2, True), (3, True)])
        self.check_error(NothingToRedo(), board.redo)
        self.assertEqual((board.undo(), board.undo(), board.drop(0)), (2, 1, 2))
        self.assertEqual([board.at(k) for k in range(3)], tables[:2] + [plain.part(tables[1], (1, 2))])

    def test_versions(self):
        board = Board(FAN)
        for version in range(5):
            for given in odd_values() + [version + 1, -1, True, False, 0.0, "0", None, 41]:
                if not (type(given) is int and 0 <= given <= version):
                    self.check_error(NoVersion(given), board.at, given)
            self.assertEqual(board.at(version), board.table)
            board.paint(0, 1, version + 7)
        board.undo()
        self.check_error(NoVersion(5), board.at, 5)

    def test_news(self):
        board = Board(FAN)
        self.assertEqual(board.news(), ((), ()))
        board.add((1, 1, 0), (1, 1, 0))
        self.assertEqual(board.news(), (((0, 1, 2),), ((3,), (2, 3), (0, 1, 2, 3))))
        for wrong in (lambda: board.drop(9), lambda: board.look(0, 0), lambda: board.at(7), lambda: board[99], board.redo):
            self.assertRaises(PieceError, wrong)
            self.assertEqual(len(board.news()[1]), 3)
        board.undo()
        self.assertEqual(board.news(), (((3,), (2, 3), (0, 1, 2, 3)), ((0, 1, 2),)))
        board.redo()
        self.assertEqual(board.news(), (((0, 1, 2),), ((3,), (2, 3), (0, 1, 2, 3))))
        board.turn((0, 1))
        self.assertEqual(board.news(), ((), ()))

    def test_edits_taken_back_leave_nothing_behind(self):
        rng = random.Random(262)
        for table in tables_of_boards()[::3]:
            board, model = Board(table), PlainBoard(table)
            for _ in range(8):
                self.some_step(rng, board, model)
            kept, version, tables = board.table, board.version, [board.at(k) for k in range(board.version + 1)]
            done = 0
            for _ in range(4):
                done += isinstance(self.check_done(board, model, "turn", ()), int)
            for _ in range(done):
                self.check_done(board, model, "undo")
            self.assertEqual((board.table, board.version), (kept, version))
            self.assertEqual([board.at(k) for k in range(version + 1)], tables)
            self.assertEqual((board.tree, list(board)), (plain.tree(kept), plain.strong(kept)))


class Attempts(HistoryCase):
    def board(self):
        """A board with edits that stand, edits taken back and news, and a plain one."""
        board, model = Board(FAN), PlainBoard(FAN)
        for word, *given in (("add", (1, 1, 0), (1, 1, 0)), ("paint", 0, 3, 5), ("drop", 1), ("undo",), ("undo",)):
            self.check_done(board, model, word, *given)
        return board, model

    def test_that_end_well(self):
        board, model = self.board()
        result = object()
        self.assertIs(board.attempt(lambda one: result), result)
        self.check_state(board, model)
        self.assertIsNone(board.attempt(lambda one: None))

        def work(one):
            self.assertIs(one, board)
            self.check_done(one, model, "drop", 0)
            self.check_done(one, model, "undo")
            return self.check_done(one, model, "paint", 0, 1, 8)

        self.assertEqual(board.attempt(work), 2)
        self.check_state(board, model)

    def test_behind_an_error_of_the_package(self):
        def drops(one):
            one.drop(0)
            one.drop(7)

        def takes_back(one):
            one.undo()
            one.turn(())
            one.undo()
            one.undo()

        def does_again(one):
            one.redo()
            one.redo()
            one.redo()

        def raises(one):
            one.redo()
            raise Unfit()

        def wrong_look(one):
            one.batch((("drop", (0,)), ("drop", (0,))))
            one.paint(0, 1, 100)

        for work, error in ((drops, NotThing(7)), (takes_back, NothingToUndo()), (does_again, NothingToRedo()), (raises, Unfit()), (wrong_look, BadLooks())):
            board, model = self.board()
            news = board.news()
            self.check_error(error, board.attempt, work)
            self.check_state(board, model)
            self.assertEqual(board.news(), news)
            # All that was taken back is there again.
            self.check_done(board, model, "redo")
            self.check_done(board, model, "redo")
            self.check_done(board, model, "redo")
            self.check_state(board, model)

    def test_the_very_error_goes_on(self):
        board, _ = self.board()
        error = NotPiece("here")

        def work(one):
            one.drop(0)
            raise error

        with self.assertRaises(NotPiece) as caught:
            board.attempt(work)
        self.assertIs(caught.exception, error)

    def test_behind_any_other_error(self):
        for error in (ValueError("x"), KeyError(1), ZeroDivisionError(), RuntimeError(), TypeError(), Exception(), IndexError(), KeyboardInterrupt()):
            board, model = self.board()

            def work(one):
                self.check_done(one, model, "redo")
                self.check_done(one, model, "drop", 0)
                raise error

            with self.assertRaises(type(error)) as caught:
                board.attempt(work)
            self.assertIs(caught.exception, error)
            self.check_state(board, model)
            self.check_error(NothingToRedo(), board.redo)

    def test_within_one_another(self):
        board, model = self.board()

        def inner(one):
            one.drop(0)
            one.drop(0)
            raise Unfit()

        def outer(one):
            self.check_done(one, model, "paint", 0, 2, 9)
            self.check_error(Unfit(), one.attempt, inner)
            self.check_state(one, model)
            return self.check_done(one, model, "turn", ())

        self.assertEqual(board.attempt(outer), 3)
        self.check_state(board, model)

        def fails(one):
            one.attempt(lambda two: two.drop(0))
            one.attempt(inner)

        self.check_error(Unfit(), board.attempt, fails)
        self.check_state(board, model)

        def stays(one):
            self.check_done(one, model, "drop", 0)
            one.attempt(lambda two: 1 // 0)

        self.assertRaises(ZeroDivisionError, board.attempt, stays)
        self.check_state(board, model)

    def test_of_other_boards(self):
        # What is done to another board in a work stays.
        board, other = Board(FAN), Board(LINE)

        def work(one):
            other.drop(0)
            one.drop(0)
            raise Unfit()

        self.check_error(Unfit(), board.attempt, work)
        self.assertEqual((board.table, other.version), (FAN, 1))
        copied = board.attempt(lambda one: one.copy())
        copied.drop(0)
        self.assertEqual((board.version, copied.version), (0, 1))

    def test_is_no_edit(self):
        board = Board(FAN)
        for _ in range(40):
            board.attempt(lambda one: one.turn(()))
        self.assertEqual((board.version, board.attempt(lambda one: one.version)), (40, 40))

    def test_of_kept_boards(self):
        board = KeptBoard(RING)

        def work(one):
            one.rename((1, 2, 0))
            one.drop(0)

        self.assertRaises(PieceError, board.attempt, work)
        self.assertEqual((board.table, board.version), (RING, 0))


class Copies(ErrorCase):
    def test_kinds(self):
        for kind, table in ((Board, FAN), (Board, RING), (KeptBoard, RING)):
            board = kind(table)
            board.rename((1, 0, 2))
            board.turn((0, 1, 2))
            board.undo()
            other = board.copy()
            self.assertIs(type(other), kind)
            self.assertEqual((other.table, other.version, other.news(), other.tree, list(other)), (board.table, 1, board.news(), board.tree, list(board)))
            self.assertEqual((other.redo(), board.version, board.redo(), other.at(0)), (2, 1, 2, table))
            self.assertIs(type(other.copy().copy()), kind)
