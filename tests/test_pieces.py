"""is_piece, telling, least_piece, growing, pieces, between, quotient ([B1] to [B5])."""

import itertools
import random
import unittest

import plain
from helper import FAN, LINE, RING, sample_tables, small_tables
from piecetrees.errors import NotPiece, PieceError, Unfit
from piecetrees.pieces import between, growing, is_piece, least_piece, pieces, quotient, telling


def many_tables():
    """Tables of sizes 0 to 5 of many kinds."""
    drawn = [table for seed in range(8) for size in range(6) for table in plain.drawn_tables(seed, size)]
    return drawn + [table for table in sample_tables() if table[0] <= 5] + small_tables(3, (0, 1))


def wide_tables():
    """Tables of eight things of many kinds."""
    return [table for seed in range(3) for table in plain.drawn_tables(seed, 8)]


def wanted_telling(table, lot):
    """The first triple (z, x, y), by a plain search."""
    inside = itertools.combinations(lot, 2)
    found = [(z, x, y) for x, y in inside for z in range(table[0]) if z not in lot and plain.tells(table, z, x, y)]
    return min(found, default=None)


class PieceCase(unittest.TestCase):
    def check_error(self, kind, lot, function, *told):
        with self.assertRaises(PieceError) as caught:
            function(*told)
        self.assertIs(type(caught.exception), kind)
        if kind is NotPiece:
            self.assertEqual(caught.exception.lot, lot)


class Telling(PieceCase):
    def check(self, table, lot):
        wanted = wanted_telling(table, lot)
        told = telling(table, lot)
        self.assertEqual(repr(told), repr(wanted), (table, lot))
        self.assertIs(is_piece(table, lot), plain.is_piece(table, lot))
        self.assertIs(is_piece(table, lot), wanted is None)

    def test_all_lots_of_small_tables(self):
        for table in many_tables():
            for lot in plain.lots(table[0]):
                self.check(table, lot)

    def test_drawn_lots_of_eight_things(self):
        rng = random.Random(3)
        every = plain.lots(8)
        for table in wide_tables():
            for lot in rng.sample(every, 60):
                self.check(table, lot)

    def test_pieces_of_each_table(self):
        for table in many_tables() + wide_tables():
            size = table[0]
            for lot in [(), tuple(range(size)), *[(x,) for x in range(size)]]:
                self.assertIs(is_piece(table, lot), True)
                self.assertIsNone(telling(table, lot))

    def test_told_by_one_way_alone(self):
        # 2 looks alike on 0 and 1, which look unlike on it; and the other way.
        self.assertEqual(telling((3, ((0, 0, 3), (0, 0, 4), (5, 5, 0))), (0, 1)), (2, 0, 1))
        self.assertEqual(telling((3, ((0, 0, 5), (0, 0, 5), (3, 4, 0))), (0, 1)), (2, 0, 1))

    def test_by_name(self):
        self.assertEqual((telling(lot=(0, 2), table=FAN), is_piece(lot=(0, 1), table=FAN)), ((1, 0, 2), True))


class Growing(PieceCase):
    def check(self, table, lot):
        steps = growing(table, lot)
        self.assertIs(type(steps), tuple)
        here = lot
        for step in steps:
            self.assertEqual(step, wanted_telling(table, here))
            here = tuple(sorted((*here, step[0])))
        self.assertIsNone(wanted_telling(table, here))
        least = least_piece(table, lot)
        self.assertEqual(repr(least), repr(here))
        around = [piece for piece in plain.pieces(table) if set(lot) <= set(piece)]
        self.assertEqual(least, around[0])
        self.assertTrue(all(set(least) <= set(piece) for piece in around))
        self.assertEqual(steps == (), plain.is_piece(table, lot))

    def test_all_lots_of_small_tables(self):
        for table in many_tables()[::2]:
            for lot in plain.lots(table[0]):
                self.check(table, lot)

    def test_lots_of_eight_things(self):
        rng = random.Random(4)
        every = plain.lots(8)
        for table in wide_tables():
            for lot in rng.sample(every, 4) + rng.sample([lot for lot in every if len(lot) == 2], 4):
                self.check(table, lot)

    def test_a_piece_grows_by_nothing(self):
        for table in many_tables()[::3] + wide_tables()[::5]:
            for piece in plain.pieces(table):
                self.assertEqual((growing(table, piece), least_piece(table, piece)), ((), piece))

    def test_by_name(self):
        self.assertEqual(growing(lot=(0, 2), table=LINE), ((1, 0, 2),))
        self.assertEqual(least_piece(lot=(0, 2), table=LINE), (0, 1, 2))


class Pieces(PieceCase):
    def test_all_in_order(self):
        for table in many_tables() + wide_tables():
            self.assertEqual(repr(pieces(table)), repr(tuple(plain.pieces(table))))

    def test_how_many(self):
        for size in range(9):
            self.assertEqual(len(pieces(plain.by(size, lambda x, y: 7))), 2 ** size)
            self.assertEqual(len(pieces(plain.by(size, lambda x, y: int(x < y)))), 1 + size * (size + 1) // 2)
        self.assertEqual(pieces((0, ())), ((),))
        self.assertEqual(pieces((1, ((0,),))), ((), (0,)))

    def test_meets_and_joins(self):
        for table in many_tables()[::2] + wide_tables()[::3]:
            found = pieces(table)
            even = all(table[1][x][y] == table[1][y][x] for x in range(table[0]) for y in range(table[0]))
            for lot, other in itertools.combinations(found[:60], 2):
                here, there = set(lot), set(other)
                made = [here & there]
                if here & there:
                    made.append(here | there)
                if plain.cross(lot, other):
                    made += [here - there, there - here, *([here ^ there] if even else [])]
                for one in made:
                    self.assertIn(tuple(sorted(one)), found)

    def test_not_in_a_line(self):
        self.assertEqual([lot in pieces(LINE) for lot in ((0, 1), (1, 2), (0, 2))], [True, True, False])

    def test_parts(self):
        for table in many_tables()[::4]:
            found = pieces(table)
            for piece in found:
                inner = plain.pieces(plain.part(table, piece))
                self.assertTrue(all(tuple(piece[k] for k in one) in found for one in inner))
            for lot in plain.lots(table[0]):
                inner = pieces(plain.part(table, lot))
                self.assertTrue(all(tuple(k for k, x in enumerate(lot) if x in piece) in inner for piece in found))

    def test_by_name(self):
        self.assertEqual(len(pieces(table=RING)), 5)


class Between(PieceCase):
    def test_looks_both_ways(self):
        for table in many_tables()[::2] + wide_tables()[::4]:
            found = [piece for piece in plain.pieces(table) if piece]
            for lot, other in itertools.permutations(found[:40], 2):
                if not set(lot) & set(other):
                    look, back = between(table, lot, other)
                    self.assertEqual({table[1][x][y] for x in lot for y in other}, {look})
                    self.assertEqual({table[1][y][x] for x in lot for y in other}, {back})
        self.assertEqual(between((2, ((0, 3), (9, 0))), (0,), (1,)), (3, 9))
        self.assertEqual(between((2, ((0, 3), (9, 0))), (1,), (0,)), (9, 3))

    def test_unfit(self):
        for lot, other in (((), (0,)), ((0,), ()), ((), ()), ((0,), (0,)), ((0, 1), (1, 2)), ((0, 1, 2), (2,))):
            self.check_error(Unfit, None, between, FAN, lot, other)
        # Ahead of NotPiece.
        for lot, other in (((), (0, 2)), ((0, 2), ()), ((0, 2), (2,)), ((2,), (0, 2)), ((0, 2), (1, 2))):
            self.check_error(Unfit, None, between, FAN, lot, other)

    def test_no_piece(self):
        self.check_error(NotPiece, (0, 2), between, FAN, (0, 2), (1,))
        self.check_error(NotPiece, (0, 2), between, FAN, (1,), (0, 2))
        path = plain.by(4, lambda x, y: int(abs(x - y) == 1))
        self.check_error(NotPiece, (2, 3), between, path, (2, 3), (0, 1))
        self.check_error(NotPiece, (0, 1), between, path, (0, 1), (2, 3))

    def test_by_name(self):
        self.assertEqual(between(other=(2,), lot=(0, 1), table=FAN), (1, 1))


class Quotient(PieceCase):
    def parted(self, rng, table, found):
        """Pieces that have each thing just once, in any order."""
        left, lots = set(range(table[0])), []
        while left:
            fitting = [piece for piece in found if piece and set(piece) <= left and min(left) in piece]
            lots.append(rng.choice(fitting))
            left -= set(lots[-1])
        return tuple(rng.sample(lots, len(lots)))

    def test_rows_of_pieces(self):
        rng = random.Random(5)
        for table in many_tables() + wide_tables():
            found = plain.pieces(table)
            for _ in range(3):
                given = self.parted(rng, table, found)
                told = quotient(table, given)
                self.assertEqual(told[0], len(given))
                for (k, lot), (m, other) in itertools.product(enumerate(given), repeat=2):
                    looks = {table[1][x][y] for x in lot for y in other} if k != m else {0}
                    self.assertEqual({told[1][k][m]}, looks)
                self.assertEqual({type(told), type(told[1]), *map(type, told[1])}, {tuple})
        self.assertEqual(quotient((0, ()), ()), (0, ()))
        for table in wide_tables():
            self.assertEqual(quotient(table, tuple((x,) for x in range(8))), table)
            self.assertEqual(quotient(table, (tuple(range(8)),)), (1, ((0,),)))

    def test_first_that_is_no_piece(self):
        path = plain.by(6, lambda x, y: int(abs(x - y) == 1))
        self.check_error(NotPiece, (4, 5), quotient, path, ((3,), (4, 5), (0, 1), (2,)))
        self.check_error(NotPiece, (0, 1), quotient, path, ((3,), (0, 1), (4, 5), (2,)))
        self.check_error(NotPiece, (0, 2), quotient, LINE, ((1,), (0, 2)))

    def test_by_name(self):
        self.assertEqual(quotient(lots=((2,), (0, 1)), table=FAN), (2, ((0, 1), (1, 0))))
