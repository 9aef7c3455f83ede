"""strong, knots, knot_of, pieces_of, piece_at, place_of ([C1], [C2], [C4], [C5])."""

import random
import unittest

import plain
from helper import FAN, LINE, RING, sample_tables, small_tables
from piecetrees.errors import NotPiece, NotTree, PieceError, TooFar, Unfit
from piecetrees.knots import knot_of, knots, piece_at, pieces_of, place_of, strong
from piecetrees.trees import piece_count, table_of, tree_of


def many_tables():
    """Tables of all sizes, more of the small ones."""
    drawn = [table for seed in range(6) for size in range(7) for table in plain.drawn_tables(seed, size)]
    wide = [table for size in (7, 8) for table in plain.drawn_tables(9, size)]
    return drawn + wide + sample_tables() + small_tables(3, (0, 1))


class KnotCase(unittest.TestCase):
    def check_error(self, kind, told, function, *given):
        with self.assertRaises(PieceError) as caught:
            function(*given)
        self.assertIs(type(caught.exception), kind)
        self.assertEqual(repr(vars(caught.exception)), repr(told))


class Strong(KnotCase):
    def test_beside_a_plain_check(self):
        for table in many_tables():
            self.assertEqual(repr(strong(table)), repr(tuple(plain.strong(table))))

    def test_edges(self):
        self.assertEqual(strong((0, ())), ())
        self.assertEqual(strong((1, ((0,),))), ((0,),))
        single = tuple((x,) for x in range(8))
        for table in sample_tables()[-6:-3]:
            self.assertEqual(strong(table), single + (tuple(range(8)),))

    def test_by_name(self):
        self.assertEqual(strong(table=FAN), ((0,), (1,), (2,), (0, 1), (0, 1, 2)))


class Knots(KnotCase):
    def wanted(self, table):
        """The rows of knots, off the plain tree."""
        rows = []
        for word, looks, sons in plain.knots_in(plain.tree(table)):
            lots = tuple(tuple(sorted(plain.things_in(son))) for son in sons)
            rows.append((tuple(sorted(x for lot in lots for x in lot)), word, looks, lots))
        return tuple(sorted(rows, key=lambda row: (len(row[0]), row[0])))

    def test_beside_the_plain_tree(self):
        for table in many_tables():
            self.assertEqual(repr(knots(table)), repr(self.wanted(table)))

    def test_edges(self):
        self.assertEqual(knots((0, ())), ())
        self.assertEqual(knots((1, ((0,),))), ())
        self.assertEqual(knots(RING), (((0, 1, 2), "firm", RING[1], ((0,), (1,), (2,))),))

    def test_by_name(self):
        self.assertEqual(knots(table=LINE), (((0, 1, 2), "line", (0, 1), ((2,), (1,), (0,))),))


class KnotOf(KnotCase):
    def test_beside_a_plain_check(self):
        rng = random.Random(11)
        for table in many_tables():
            around = plain.strong(table)
            every = [lot for lot in plain.lots(table[0]) if len(lot) >= 2]
            for lot in rng.sample(every, min(len(every), 12)):
                self.assertEqual(knot_of(table, lot), [one for one in around if set(lot) <= set(one)][0])

    def test_unfit(self):
        for table in many_tables()[:80]:
            for lot in [(), *[(x,) for x in range(table[0])]]:
                self.check_error(Unfit, {}, knot_of, table, lot)

    def test_by_name(self):
        self.assertEqual(knot_of(lot=(1, 2), table=FAN), (0, 1, 2))


class PiecesOf(KnotCase):
    def drawn(self):
        rng = random.Random(12)
        trees = [(size, plain.drawn_tree(rng, list(range(size)))) for size in range(1, 9) for _ in range(6)]
        things = tuple(range(8))
        return trees + [(0, ()), (8, ("all", (0,), things)), (8, ("line", (0, 1), things))]

    def test_beside_a_plain_list(self):
        for size, tree in self.drawn():
            found = plain.pieces(table_of(size, tree))
            self.assertEqual(repr(pieces_of(size, tree)), repr(tuple(found)))
            self.assertEqual(piece_count(size, tree), len(found))

    def test_places(self):
        for size, tree in self.drawn():
            found = plain.pieces(table_of(size, tree))
            for place, lot in enumerate(found):
                self.assertEqual(piece_at(size, tree, place), lot)
                self.assertEqual(place_of(size, tree, lot), place)
            for place in (len(found), len(found) + 1, 10 ** 399):
                self.check_error(TooFar, {"count": len(found)}, piece_at, size, tree, place)

    def test_eight_alike(self):
        tree = ("all", (42,), tuple(range(8)))
        every = plain.lots(8)
        self.assertEqual(pieces_of(8, tree), tuple(every))
        self.assertEqual([piece_at(8, tree, place) for place in (0, 1, 9, 254, 255)], [every[k] for k in (0, 1, 9, 254, 255)])
        self.check_error(TooFar, {"count": 256}, piece_at, 8, tree, 256)

    def test_no_pieces(self):
        for size, tree in self.drawn():
            found = plain.pieces(table_of(size, tree))
            for lot in plain.lots(size):
                if lot not in found:
                    self.check_error(NotPiece, {"lot": lot}, place_of, size, tree, lot)

    def test_no_trees(self):
        # Ahead of TooFar and of NotPiece.
        for value, error in (((), "form"), (("all", (0,), (0, 1, 1)), "things"), (("line", (1, 0), (0, 1, 2)), ("looks", 0))):
            self.check_error(NotTree, {"error": error}, pieces_of, 3, value)
            self.check_error(NotTree, {"error": error}, piece_at, 3, value, 99)
            self.check_error(NotTree, {"error": error}, place_of, 3, value, (0, 2))

    def test_of_real_tables(self):
        for table in many_tables()[::3]:
            self.assertEqual(pieces_of(table[0], tree_of(table)), tuple(plain.pieces(table)))

    def test_by_name(self):
        tree = ("all", (0,), (0, 1))
        self.assertEqual(pieces_of(tree=tree, size=2), ((), (0,), (1,), (0, 1)))
        self.assertEqual((piece_at(place=3, tree=tree, size=2), place_of(lot=(1,), tree=tree, size=2)), ((0, 1), 2))
