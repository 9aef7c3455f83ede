"""Board: what it tells ([L1]), and its edits ([L2])."""

import copy
import itertools
import random

import piecetrees.errors as errors
import plain
import plain_boards
from helper import FAN, LINE, RING, ErrorCase, odd_values, sample_tables
from piecetrees.boards import Board, KeptBoard
from piecetrees.errors import BadBatch, BadLooks, NotLot, NotPiece, NotTable, NotThing, PieceError, Rejected, TooMany, TooManyEdits
from plain_boards import MANY, WORDS, PlainBoard, bent_arguments, right_arguments


class BoardCase(ErrorCase):
    def check_state(self, board, model):
        """Whether a board is all that a plain one is."""
        table = model.tables[-1]
        strong = plain.strong(table)
        self.assertEqual(repr(board.table), repr(table))
        self.assertEqual(board.version, len(model.tables) - 1)
        self.assertEqual(repr(board.tree), repr(plain.tree(table)))
        self.assertEqual((len(board), list(board)), (table[0], strong))
        self.assertEqual(repr(board.news()), repr(model.news))
        self.assertEqual([board.at(k) for k in range(len(model.tables))], model.tables)

    def check_done(self, board, model, word, *given):
        """Whether an edit, undo or redo does the same to a board and to a plain one."""
        kept = copy.deepcopy(given)
        wanted = model.does(word, *given)
        try:
            told = getattr(board, word)(*given)
            self.assertIs(type(told), int)
        except PieceError as error:
            told = error
        if isinstance(wanted, PieceError):
            self.assertEqual((type(told), repr(vars(told))), (type(wanted), repr(vars(wanted))), (word, given))
        else:
            self.assertEqual(told, wanted, (word, given))
        self.assertEqual(repr(board.table), repr(model.tables[-1]))
        self.assertEqual(board.version, len(model.tables) - 1)
        if " object at " not in repr(given):
            self.assertEqual(repr(given), repr(kept))
        return wanted


def tables_of_boards():
    found = [table for size in range(9) for table in plain.drawn_tables(250, size)[::3]]
    return found + [FAN, LINE, RING, (0, ()), (1, ((0,),)), plain.by(8, lambda x, y: 1)]


class Told(BoardCase):
    def test_properties_and_methods(self):
        for table in tables_of_boards() + sample_tables()[::5]:
            board = Board(table)
            self.check_state(board, PlainBoard(table))
            self.assertEqual(str(board), "\n".join([str(table[0])] + [
                " ".join("-" if x == y else str(table[1][x][y]) for y in range(table[0])) for x in range(table[0])
            ]))

    def test_no_table(self):
        values = odd_values() + [(2, ((0, 1), (1, 2))), (2, ((0, 100), (0, 0))), (2, ((0, 1), [0, 0])), (9, ((0,) * 9,) * 9), (True, ((0,),)), (1, ((1,),))]
        for value in values:
            error = plain_boards.table_error(value)
            if error is None:
                self.assertEqual(Board(value).table, value)
            else:
                self.check_error(NotTable(error), Board, value)
                self.check_error(NotTable(error), KeptBoard, value)

    def test_properties_can_only_be_read(self):
        for board in (Board(FAN), KeptBoard(RING)):
            for name in ("table", "tree", "version"):
                self.assertIsInstance(getattr(type(board), name), property)
                with self.assertRaises(AttributeError):
                    setattr(board, name, 1)
        self.assertEqual((board.table, board.version), (RING, 0))

    def test_places(self):
        for table in tables_of_boards()[::2]:
            board, strong = Board(table), plain.strong(table)
            for index in range(len(strong)):
                self.assertEqual(repr(board[index]), repr(strong[index]))
            for index in odd_values() + [len(strong), len(strong) + 1, -1, -len(strong), True, 0.0, "0", slice(0, 1)]:
                if not (type(index) is int and 0 <= index < len(strong)):
                    self.check_error(NotPiece(index), lambda: board[index])

    def test_in(self):
        for table in tables_of_boards()[::2]:
            board, found = Board(table), plain.pieces(table)
            for lot in plain.lots(table[0]):
                self.assertIs(lot in board, lot in found)
                self.assertIs(lot[::-1] in board, lot[::-1] in found)
                self.assertIs(list(lot) in board, False)
            for value in odd_values() + [(True,), (False,), (0, True), (0.0,), (table[0],), (-1,), 0, None]:
                self.assertIs(value in board, plain_boards.is_lot(table[0], value) and value in found)

    def test_walk(self):
        board = Board(FAN)
        walk = iter(board)
        self.assertEqual(next(walk), (0,))
        board.drop(0)
        self.assertEqual(list(walk), [(1,), (2,), (0, 1), (0, 1, 2)])
        self.assertEqual(list(board), [(0,), (1,), (0, 1)])
        self.assertEqual([lot for lot in board for _ in board], [lot for lot in board for _ in range(3)])
        self.assertEqual(list(Board((0, ()))), [])

    def test_equality(self):
        boards = [Board(table) for table in tables_of_boards()] + [KeptBoard(RING), KeptBoard(plain.by(4, lambda x, y: int(abs(x - y) == 1)))]
        for one, two in itertools.product(boards, repeat=2):
            self.assertIs(one == two, one.table == two.table)
            self.assertIs(one != two, one.table != two.table)
        self.assertIs(Board(RING) == KeptBoard(RING), True)
        self.assertIs(KeptBoard(RING) == Board(RING), True)
        for board in (Board(FAN), KeptBoard(RING), Board((0, ())), Board((1, ((0,),)))):
            for value in [one for one in odd_values() if not isinstance(one, Board)] + [board.table, board.tree, str(board), list(board), PlainBoard(board.table)]:
                self.assertIs(board == value, False)
                self.assertIs(value == board, False)
                self.assertIs(board != value, True)
                self.assertIs(value != board, True)
        changed = Board(FAN)
        changed.paint(0, 1, 5)
        self.assertIs(changed == Board(FAN), False)
        changed.undo()
        self.assertIs(changed == Board(FAN), True)

    def test_look(self):
        rng = random.Random(251)
        for table in tables_of_boards():
            board = Board(table)
            for x, y in itertools.permutations(range(table[0]), 2):
                self.assertEqual(board.look(x, y), table[1][x][y])
            values = list(range(table[0])) + [table[0], -1, True, False, None] + rng.sample(odd_values(), 12)
            for thing, other in itertools.product(values, repeat=2):
                bad = [value for value in (thing, other) if not plain_boards.is_int(value, 0, table[0])]
                if bad or thing == other:
                    self.check_error(NotThing((bad or [other])[0]), board.look, thing, other)

    def test_piece_and_knot(self):
        for table in tables_of_boards():
            board = Board(table)
            found = plain.pieces(table)
            lots = plain.lots(table[0])
            for lot in lots[::len(lots) // 30 + 1]:
                wanted = min((one for one in found if set(lot) <= set(one)), key=len)
                self.assertEqual(repr(board.piece(lot)), repr(wanted))
                if len(lot) > 1:
                    self.assertEqual(repr(board.knot(lot)), repr(plain_boards.knot(table, lot)))
            for value in odd_values() + [(table[0],), (0, table[0]), (1, 0), (0, 0), (0, True), [0, 1], -1]:
                if not plain_boards.is_lot(table[0], value):
                    self.check_error(NotLot(value), board.piece, value)
                if not plain_boards.is_lot(table[0], value) or len(value) < 2:
                    self.check_error(NotLot(value), board.knot, value)

    def test_by_name(self):
        board = Board(value=FAN)
        self.assertEqual((board.look(other=2, thing=0), board.piece(lot=(0, 2)), board.at(version=0)), (1, (0, 1, 2), FAN))
        self.assertEqual(board.knot(lot=(0, 1)), ("all", (0,), ((0,), (1,))))
        self.assertEqual([board.add(back=(0, 0, 5), looks=(0, 0, 1)), board.drop(thing=3), board.paint(look=7, other=1, thing=0)], [1, 2, 3])
        self.assertEqual([board.turn(lot=()), board.rename(naming=(0, 2, 1)), board.put(table=(0, ()), thing=1), board.batch(edits=())], [4, 5, 6, 7])
        self.assertEqual(board.attempt(work=lambda one: one.undo()), 6)


class Edits(BoardCase):
    def test_right_arguments(self):
        rng = random.Random(252)
        for table in tables_of_boards():
            for word in WORDS:
                for _ in range(3):
                    given = right_arguments(rng, table, word)
                    if given is not None:
                        board, model = Board(table), PlainBoard(table)
                        self.check_done(board, model, word, *given)
                        self.check_state(board, model)

    def test_bent_arguments(self):
        rng = random.Random(253)
        told = {}
        for table in tables_of_boards()[::3] + [FAN]:
            for word in WORDS:
                board, model = Board(table), PlainBoard(table)
                for given in bent_arguments(rng, table, word):
                    wanted = self.check_done(board, model, word, *given)
                    told.setdefault(type(wanted).__name__, []).append(word)
                    if not isinstance(wanted, PieceError):
                        self.check_done(board, model, "undo")
                self.check_state(board, model)
        names = {"int", "BadLooks", "TooMany", "NotThing", "NotPiece", "BadNaming", "NotTable"}
        self.assertEqual(set(told), names)

    def test_first_error(self):
        board, full = Board(FAN), Board(plain.by(8, lambda x, y: 1))
        self.check_error(BadLooks(), full.add, (1,) * 7, (1,) * 8)
        self.check_error(BadLooks(), full.add, (1,) * 8, (1,) * 9)
        self.check_error(TooMany(8), full.add, (1,) * 8, (1,) * 8)
        self.check_error(NotThing(9), board.paint, 9, 7, 100)
        self.check_error(NotThing(7), board.paint, 1, 7, 100)
        self.check_error(NotThing(1), board.paint, 1, 1, 100)
        self.check_error(NotThing(True), board.paint, True, 1, 100)
        self.check_error(BadLooks(), board.paint, 1, 0, 100)
        self.check_error(BadLooks(), board.paint, 1, 0, True)
        self.check_error(NotThing(3), board.put, 3, None)
        self.check_error(NotTable("size"), board.put, 2, None)
        self.check_error(NotTable((0, 0)), board.put, 2, (1, ((1,),)))
        self.check_error(TooMany(8), full.put, 2, (2, ((0, 0), (0, 0))))
        self.check_error(TooMany(8), board.put, 0, plain.by(7, lambda x, y: 0))
        self.assertEqual(board.put(0, plain.by(6, lambda x, y: 0)), 1)
        self.assertEqual(full.put(7, (1, ((0,),))), 1)
        self.check_error(NotPiece((0, 2)), Board(FAN).turn, (0, 2))
        self.check_error(NotPiece([0, 1]), Board(FAN).turn, [0, 1])

    def test_an_edit_that_leaves_all_as_it_was(self):
        board = Board(FAN)
        for edit in (lambda: board.paint(0, 2, 1), lambda: board.turn(()), lambda: board.turn((1,)), lambda: board.rename((0, 1, 2)), lambda: board.put(1, (1, ((0,),)))):
            version = board.version
            self.assertEqual(edit(), version + 1)
            self.assertEqual((board.table, board.news()), (FAN, ((), ())))
        self.assertEqual(board.batch(()), 6)

    def test_what_turn_leaves(self):
        for table in tables_of_boards():
            board = Board(table)
            words = [knot[0] for knot in plain.knots_in(board.tree)]
            for k in range(-4, 0):
                strong = list(board)
                board.turn(plain.pieces(board.table)[max(k, -table[0])])
                self.assertEqual(list(board), strong)
                self.assertEqual(sorted(knot[0] for knot in plain.knots_in(board.tree)), sorted(words))

    def test_when_a_thing_comes(self):
        rng = random.Random(254)
        for table in [one for one in tables_of_boards() if one[0] < 7]:
            board, new = Board(table), table[0]
            looks, back = right_arguments(rng, table, "add")
            board.add(looks, back)
            apart = [lot for lot in plain.lots(new) if len({(looks[x], back[x]) for x in lot}) > 1]
            for lot in plain.pieces(table):
                if lot not in apart:
                    self.assertIn(lot, board)
            for lot in plain.pieces(board.table):
                self.assertIn(tuple(x for x in lot if x != new), plain.pieces(table))

    def test_forty_edits(self):
        for kind, table in ((Board, FAN), (KeptBoard, RING)):
            board = kind(table)
            for version in range(1, 41):
                self.assertEqual(board.turn(()), version)
            looks = (1,) * 3
            for edit in (lambda: board.turn(()), lambda: board.rename((0, 2, 1)), lambda: board.put(0, (1, ((0,),))), lambda: board.batch(())):
                self.check_error(TooManyEdits(), edit)
            self.check_error(TooManyEdits(), board.batch, (("rename", ((1, 0, 2),)),) * 12)
            if kind is Board:
                for edit in (lambda: board.add(looks, looks), lambda: board.drop(0), lambda: board.paint(0, 1, 2)):
                    self.check_error(TooManyEdits(), edit)
            # Behind all other errors.
            self.check_error(NotPiece((2, 1)), board.turn, (2, 1))
            self.check_error(NotThing(3), board.drop, 3)
            self.check_error(BadLooks(), board.add, (), ())
            self.check_error(BadBatch(), board.batch, None)
            self.check_error(Rejected(0), board.batch, (("drop", (9,)),))
            self.assertEqual((board.version, board.table), (40, table))
            self.assertEqual(board.undo(), 39)
            self.assertEqual(board.redo(), 40)
            self.check_error(TooManyEdits(), board.turn, ())
            self.assertEqual((board.undo(), board.turn(()), board.version), (39, 40, 40))

    def test_too_many_things_ahead_of_too_many_edits(self):
        board = Board(plain.by(8, lambda x, y: 0))
        for _ in range(40):
            board.turn((0,))
        self.check_error(TooMany(8), board.add, (0,) * 8, (0,) * 8)
        self.check_error(TooManyEdits(), board.drop, 0)


class Batches(BoardCase):
    def drawn_batch(self, rng, table, many):
        """A batch that is done, or not, and of so many edits."""
        edits = []
        for _ in range(many):
            word = rng.choice(WORDS)
            given = right_arguments(rng, table, word)
            if given is None:
                word, given = "rename", (tuple(range(table[0])),)
            told = plain_boards.edited(table, word, given)
            edits.append((word, given))
            table = table if isinstance(told, PieceError) else told
        return tuple(edits)

    def test_drawn_batches(self):
        rng = random.Random(255)
        rejected = {}
        for table in tables_of_boards():
            board, model = Board(table), PlainBoard(table)
            for many in (0, 1, 3, 7, 12):
                wanted = self.check_done(board, model, "batch", self.drawn_batch(rng, model.tables[-1], many))
                rejected[getattr(wanted, "index", None)] = True
            self.check_state(board, model)
        self.assertGreaterEqual(len(rejected), 5)

    def test_refused_at_each_place(self):
        good = ("rename", ((1, 0, 2),))
        for bad in (("drop", (3,)), ("turn", ((0, 2),)), ("paint", (0, 1, 100)), ("add", ((), ())), ("put", (0, None)), ("rename", ([0, 1, 2],))):
            for many in range(1, 13):
                for index in range(many):
                    board = Board(FAN)
                    self.check_error(Rejected(index), board.batch, (good,) * index + (bad,) + (good,) * (many - index - 1))
                    self.assertEqual((board.table, board.version, board.news()), (FAN, 0, ((), ())))

    def test_an_edit_counts_on_those_ahead_of_it(self):
        board = Board(FAN)
        self.assertEqual(board.batch((("drop", (2,)), ("add", ((5, 6), (7, 8))), ("rename", ((2, 1, 0),)))), 1)
        self.assertEqual(board.table, (3, ((0, 8, 7), (6, 0, 0), (5, 0, 0))))
        self.check_error(Rejected(1), board.batch, (("drop", (2,)), ("drop", (2,))))
        full = Board(plain.by(8, lambda x, y: 0))
        self.check_error(Rejected(0), full.batch, (("add", ((0,) * 8, (0,) * 8)), ("drop", (0,))))
        self.assertEqual(full.batch((("drop", (0,)), ("add", ((1,) * 7, (1,) * 7)))), 1)

    def test_no_batches(self):
        board, model = Board(FAN), PlainBoard(FAN)
        good = ("turn", ((),))
        values = odd_values() + [
            (good,) * 13, [good], (list(good),), (good + (0,),), (good[:1],), (("turn", [()]),), (("turn", ()),), (("turn", ((), ())),), (("batch", ((),)),),
            (("undo", ()),), (("redo", ()),), (("Turn", ((),)),), ((None, ((),)),), (([], ((),)),), (({}, ((),)),), ((("turn",), ((),)),), ((board, ((),)),),
            (("add", ((0, 0, 0),)),), (("drop", (0, 1)),), (("paint", (0, 1)),), (("rename", ()),), (("put", (0,)),), (("drop", 0),), (("drop", None),),
            (good, good, None), (good, ("drop", (9,)), ("drop", ())), {0: good}, "turn", (("copy", ()),), (("turn\n", ((),)),), (("drop", {0: 0}),),
        ]
        for value in values:
            self.check_done(board, model, "batch", value)
        self.check_error(BadBatch(), board.batch, (good,) * 13)
        # A wrong form is told ahead of an edit that raises.
        self.check_error(BadBatch(), board.batch, (("drop", (9,)), ("drop", ())))
        self.check_state(board, model)

    def test_as_one_edit(self):
        board = Board(FAN)
        self.assertEqual(board.batch((("drop", (0,)), ("drop", (0,)), ("drop", (0,)))), 1)
        self.assertEqual((board.table, board.undo(), board.table, board.redo(), len(board)), ((0, ()), 0, FAN, 1, 0))
        for _ in range(39):
            board.batch((("add", ((), ())), ("drop", (0,))) * 6)
        self.check_error(TooManyEdits(), board.batch, ())


class Errors(ErrorCase):
    def test_words(self):
        # In words an error tells the name of its class, as a shell's answer needs it.
        for name in ("Unfit", "BadLooks", "TooManyEdits", "NothingToUndo"):
            self.assertEqual(str(getattr(errors, name)()), name)
        self.assertEqual((str(NotPiece((0, 1))), str(NotPiece(lot=3)), str(TooMany(8))), ("NotPiece", "NotPiece", "TooMany"))
