"""tree_of, table_of, piece_count, tree_text ([C1] to [C3], [C5] to [C7])."""

import itertools
import random
import unittest

import plain
from helper import FAN, LINE, sample_tables, small_tables
from piecetrees.errors import NotTree
from piecetrees.looks import put_in
from piecetrees.trees import piece_count, table_of, tree_error, tree_of, tree_text


def drawn_trees(seed, many):
    """Trees of each size from 1 on, with knots within knots."""
    rng = random.Random(seed)
    return [(size, plain.drawn_tree(rng, list(range(size)))) for size in range(1, 9) for _ in range(many)]


class TreeOf(unittest.TestCase):
    def check(self, table):
        tree = tree_of(table)
        self.assertEqual(repr(tree), repr(plain.tree(table)), table)
        self.assertEqual(repr(table_of(table[0], tree)), repr(table))
        self.assertIsNone(tree_error(table[0], tree))

    def test_small_tables(self):
        for table in small_tables(3, (0, 1, 2)) + small_tables(2, (0, 5, 99)):
            self.check(table)
        for seed in range(12):
            for size in range(7):
                for table in plain.drawn_tables(seed, size):
                    self.check(table)

    def test_wide_tables(self):
        for table in sample_tables():
            self.check(table)
        for seed in range(2):
            for size in (7, 8):
                for table in plain.drawn_tables(seed, size):
                    self.check(table)

    def test_there_and_back(self):
        for size, tree in drawn_trees(1, 60):
            table = table_of(size, tree)
            self.assertEqual(repr(tree_of(table)), repr(tree))
            self.assertEqual({type(table), type(table[1]), *map(type, table[1])}, {tuple})

    def test_looks_told_by_the_least_knot(self):
        for size, tree in drawn_trees(2, 10):
            rows = table_of(size, tree)[1]
            for word, looks, sons in plain.knots_in(tree):
                lots = [plain.things_in(son) for son in sons]
                for at, to in itertools.permutations(range(len(sons)), 2):
                    told = {"all": looks[0], "line": looks[int(at > to)] if word == "line" else None}
                    look = looks[at][to] if word == "firm" else told[word]
                    self.assertEqual({rows[x][y] for x in lots[at] for y in lots[to]}, {look})

    def test_edges(self):
        self.assertEqual((tree_of((0, ())), table_of(0, ())), ((), (0, ())))
        self.assertEqual((tree_of((1, ((0,),))), table_of(1, 0)), (0, (1, ((0,),))))
        self.assertEqual(tree_of((2, ((0, 9), (9, 0)))), ("all", (9,), (0, 1)))
        self.assertEqual(tree_of((2, ((0, 9), (3, 0)))), ("line", (3, 9), (1, 0)))
        self.assertEqual(tree_of((2, ((0, 3), (9, 0)))), ("line", (3, 9), (0, 1)))

    def test_tree_of_a_piece(self):
        for size, tree in drawn_trees(3, 6):
            table = table_of(size, tree)
            for knot in plain.knots_in(tree):
                lot = sorted(plain.things_in(knot))
                self.assertEqual(tree_of(plain.part(table, lot)), self.numbered(knot, lot))

    def numbered(self, tree, lot):
        """A tree by the places of its things in a lot."""
        if isinstance(tree, int):
            return lot.index(tree)
        return (tree[0], tree[1], tuple(self.numbered(son, lot) for son in tree[2]))

    def test_put_in(self):
        # Where both knots have the word and the looks in common they become one.
        two = (2, ((0, 4), (4, 0)))
        self.assertEqual(tree_of(put_in(two, 1, two)), ("all", (4,), (0, 1, 2)))
        self.assertEqual(tree_of(put_in(two, 1, (2, ((0, 5), (5, 0))))), ("all", (4,), (0, ("all", (5,), (1, 2)))))
        self.assertEqual(tree_of(put_in(LINE, 1, LINE)), ("line", (0, 1), (4, 3, 2, 1, 0)))
        self.assertEqual(tree_of(put_in(LINE, 0, two)), ("line", (0, 1), (3, 2, ("all", (4,), (0, 1)))))

    def test_no_tree(self):
        for value, error in ((0, ("few", 0)), ((), "form"), (("all", (0,), (0, 0)), "things")):
            value = ("all", (0,), (value,)) if value == 0 else value
            with self.assertRaises(NotTree) as caught:
                table_of(1, value)
            self.assertEqual(caught.exception.error, error)

    def test_by_name(self):
        self.assertEqual(table_of(tree=tree_of(table=FAN), size=3), FAN)


class PieceCount(unittest.TestCase):
    def test_beside_a_plain_count(self):
        for size, tree in drawn_trees(4, 8):
            self.assertEqual(piece_count(size, tree), len(plain.pieces(table_of(size, tree))))
        self.assertEqual(piece_count(0, ()), 1)
        self.assertEqual(piece_count(1, 0), 2)
        for size in range(2, 9):
            things = tuple(range(size))
            self.assertEqual(piece_count(size, ("all", (6,), things)), 2 ** size)
            self.assertEqual(piece_count(size, ("line", (6, 7), things)), 1 + size * (size + 1) // 2)

    def test_no_tree(self):
        for size, value, error in ((1, (), "form"), (0, 0, "form"), (2, ("all", (0,), (0, 0)), "things")):
            with self.assertRaises(NotTree) as caught:
                piece_count(size, value)
            self.assertEqual(caught.exception.error, error)

    def test_by_name(self):
        self.assertEqual(piece_count(tree=("all", (0,), (0, 1)), size=2), 4)


class TreeText(unittest.TestCase):
    def test_form(self):
        self.assertEqual(tree_text(0, ()), "()")
        self.assertEqual(tree_text(1, 0), "0")
        self.assertEqual(tree_text(2, ("line", (3, 40), (1, 0))), "(line 3 40: 1 0)")
        rows = ((0, 12, 0, 0), (12, 0, 1, 0), (0, 1, 0, 99), (0, 0, 99, 0))
        inner = ("all", (0,), (2, 4))
        self.assertEqual(
            tree_text(7, ("firm", rows, (0, 1, inner, ("line", (0, 1), (6, 3, 5))))),
            "(firm - 12 0 0/12 - 1 0/0 1 - 99/0 0 99 -: 0 1 (all 0: 2 4) (line 0 1: 6 3 5))",
        )

    def test_no_tree(self):
        for size, value, error in ((1, (), "form"), (0, 0, "form"), (2, ("line", (1, 0), (0, 1)), ("looks", 0))):
            with self.assertRaises(NotTree) as caught:
                tree_text(size, value)
            self.assertEqual(caught.exception.error, error)

    def test_by_name(self):
        self.assertEqual(tree_text(tree=("all", (0,), (0, 1)), size=2), "(all 0: 0 1)")
