"""together, both, tree_of_both, lone, parting_piece, shared_rounds, line_of, rows_table, stretches, is_stretch ([K1] to [K5])."""

import itertools
import random

import plain
from helper import FAN, LINE, RING, ErrorCase, odd_values, replaced, small_tables
from piecetrees.errors import NotTree, Unfit
from piecetrees.together import (
    both, is_stretch, line_of, lone, parting_piece, rows_table, shared_rounds, stretches, together, tree_of_both,
)
from piecetrees.trees import tree_error, tree_of

THREE = plain.by(3, lambda x, y: 1)


def wanted_together(tables):
    """The table of the numbers of the tuples of looks."""
    size = tables[0][0]
    told = {(x, y): tuple(table[1][x][y] for table in tables) for x, y in itertools.permutations(range(size), 2)}
    numbers = {looks: k for k, looks in enumerate(sorted(set(told.values())))}
    return plain.by(size, lambda x, y: numbers[told[x, y]])


def drawn_sets(seed, sizes, many):
    """Tuples of one to six tables of one size, of many kinds."""
    rng = random.Random(seed)
    for size in sizes:
        tables = [table for k in range(3) for table in plain.drawn_tables(seed + k, size)]
        for count in range(1, 7):
            for _ in range(many):
                yield tuple(rng.choice(tables) for _ in range(count))


def drawn_pairs(seed):
    """Pairs of tables of one size with pieces in common, and other ones."""
    rng = random.Random(seed)
    for size in range(8):
        tables = plain.drawn_tables(seed, size)
        for table in tables:
            yield table, rng.choice(tables)
            yield table, plain.by(size, lambda x, y: table[1][y][x])


class Together(ErrorCase):
    def test_numbers_of_looks(self):
        for tables in drawn_sets(230, range(9), 4):
            told = together(tables)
            self.assertEqual(repr(told), repr(wanted_together(tables)))
            if len(tables) == 2:
                self.assertEqual(both(*tables), told)

    def test_pieces(self):
        for tables in drawn_sets(231, range(7), 3):
            wanted = [lot for lot in plain.lots(tables[0][0]) if all(plain.is_piece(table, lot) for table in tables)]
            self.assertEqual(plain.pieces(together(tables)), wanted)

    def test_as_many_looks_as_can_be(self):
        table = plain.by(8, lambda x, y: (8 * x + y) % 100)
        told = together((table,) * 6)
        self.assertEqual(max(look for row in told[1] for look in row), 55)
        self.assertEqual(told[1][0], (0, 0, 1, 2, 3, 4, 5, 6))

    def test_unlike_sizes(self):
        for tables in drawn_sets(232, (0, 1, 3, 5, 8), 1):
            for k in range(len(tables)):
                size = tables[0][0]
                for other in (size + 1, size - 1):
                    if 0 <= other <= 8 and len(tables) > 1:
                        self.check_error(Unfit(), together, replaced(tables, k, plain.by(other, lambda x, y: 0)))
        for table, other in ((FAN, plain.by(4, lambda x, y: 0)), ((0, ()), (1, ((0,),))), ((1, ((0,),)), (0, ()))):
            for function in (both, lone, parting_piece):
                self.check_error(Unfit(), function, table, other)
            for lot in ((), (0,)):
                self.check_error(Unfit(), shared_rounds, table, other, lot)

    def test_by_name(self):
        self.assertEqual((together(tables=(LINE,)), both(other=LINE, table=LINE)), (LINE, LINE))


class TreeOfBoth(ErrorCase):
    def test_beside_the_tree_of_both(self):
        for table, other in drawn_pairs(233):
            told = tree_of_both(table[0], tree_of(table), tree_of(other))
            self.assertEqual(repr(told), repr(plain.tree(wanted_together((table, other)))))

    def test_strong_pieces(self):
        for table, other in drawn_pairs(234):
            shared = plain.strong(both(table, other))
            for lot in plain.strong(table):
                if plain.is_piece(other, lot):
                    self.assertIn(lot, shared)
            for lot in shared:
                self.assertTrue(plain.is_piece(table, lot) and plain.is_piece(other, lot))

    def test_no_trees(self):
        good = tree_of(FAN)
        bad = [*odd_values(), ("all", (0,), (1, 0, 2)), ("all", (0,), (0, ("all", (0,), (1, 2)))), ("line", (1, 0), (0, 1, 2)), ("all", (0,), (0, 1))]
        for value in bad:
            error = tree_error(3, value)
            if error is not None:
                self.check_error(NotTree(error), tree_of_both, 3, value, good)
                self.check_error(NotTree(error), tree_of_both, 3, good, value)
                for other in bad[::7]:
                    self.check_error(NotTree(error), tree_of_both, 3, value, other)
        self.check_error(NotTree(("order", 0)), tree_of_both, 2, ("all", (0,), (1, 0)), ("line", (1, 0), (1, 0)))
        self.check_error(NotTree(("looks", 0)), tree_of_both, 2, ("line", (1, 0), (1, 0)), ("all", (0,), (1, 0)))
        self.assertEqual(tree_of_both(0, (), ()), ())

    def test_by_name(self):
        self.assertEqual(tree_of_both(other=0, tree=0, size=1), 0)


class PiecesApart(ErrorCase):
    def test_beside_all_lots(self):
        for table, other in drawn_pairs(235):
            here, there = plain.pieces(table), plain.pieces(other)
            wanted = (tuple(lot for lot in here if lot not in there), tuple(lot for lot in there if lot not in here))
            self.assertEqual(repr(lone(table, other)), repr(wanted))
            apart = [lot for lot in plain.lots(table[0]) if (lot in here) != (lot in there)]
            self.assertEqual(parting_piece(table, other), apart[0] if apart else None)

    def test_all_pairs_of_small_tables(self):
        tables = small_tables(3, (0, 1))[::3]
        for table, other in itertools.product(tables, repeat=2):
            for told, one, two in zip(lone(table, other), (table, other), (other, table)):
                self.assertEqual(list(told), [lot for lot in plain.pieces(one) if not plain.is_piece(two, lot)])

    def test_by_name(self):
        self.assertEqual((lone(other=LINE, table=FAN), parting_piece(other=LINE, table=FAN)), (((), ((1, 2),)), (1, 2)))


class SharedRounds(ErrorCase):
    def least(self, table, lot):
        return min((one for one in plain.pieces(table) if set(lot) <= set(one)), key=len)

    def check(self, table, other, lot):
        wanted = [lot]
        while True:
            first = self.least(table, wanted[-1])
            second = self.least(other, first)
            if wanted[-1] == first == second:
                break
            for one in (first, second):
                if one != wanted[-1]:
                    wanted.append(one)
        self.assertEqual(repr(shared_rounds(table, other, lot)), repr(tuple(wanted)))
        self.assertEqual(wanted[-1], self.least(both(table, other), lot))
        return len(wanted)

    def test_each_lot(self):
        longest = 0
        for table, other in list(drawn_pairs(236)) + [(FAN, LINE), (LINE, FAN), (RING, LINE)]:
            lots = plain.lots(table[0])
            for lot in lots[::len(lots) // 40 + 1]:
                longest = max(longest, self.check(table, other, lot))
        self.assertGreaterEqual(longest, 3)

    def test_many_rounds(self):
        # In each of the two there are pieces of two things in a row; together there is none but the great ones.
        one = plain.by(8, lambda x, y: 10 * (x // 2) + y // 2)
        two = plain.by(8, lambda x, y: 10 * ((x + 1) // 2) + (y + 1) // 2)
        self.assertEqual(shared_rounds(one, two, (0,)), ((0,),))
        self.assertEqual(self.check(one, two, (1, 2)), len(shared_rounds(one, two, (1, 2))))
        line = plain.by(8, lambda x, y: int(x < y))
        other = plain.by(8, lambda x, y: int((x + 4) % 8 < (y + 4) % 8))
        self.assertEqual(shared_rounds(line, other, (3, 7)), ((3, 7), (3, 4, 5, 6, 7), tuple(range(8))))

    def test_by_name(self):
        self.assertEqual(shared_rounds(lot=(1, 2), other=LINE, table=FAN), ((1, 2), (0, 1, 2)))


class Stretches(ErrorCase):
    def check(self, size, rows):
        lines = [plain.by(size, lambda x, y: int(row.index(x) < row.index(y))) for row in rows]
        self.assertEqual([repr(line_of(row)) for row in rows], [repr(line) for line in lines])
        table = rows_table(size, rows)
        self.assertEqual(repr(table), repr(wanted_together(lines)))
        found = []
        for lot in plain.lots(size):
            wanted = lot != () and all(any(set(row[k:k + len(lot)]) == set(lot) for k in range(size)) for row in rows)
            self.assertIs(is_stretch(rows, lot), wanted)
            found += [lot] if wanted else []
        self.assertEqual(repr(stretches(size, rows)), repr(tuple(found)))
        if size < 7:
            self.assertEqual(plain.pieces(table), [()] + found)

    def test_all_pairs_of_small_rows(self):
        for size in range(5):
            rows = list(itertools.permutations(range(size)))
            for row, other in itertools.product(rows[::2 if size > 3 else 1], rows):
                self.check(size, (row, other))
            for row in rows:
                self.check(size, (row,))

    def test_up_to_six_rows(self):
        rng = random.Random(237)
        for size in (3, 5, 6, 7, 8):
            for many in range(1, 7):
                self.check(size, tuple(tuple(rng.sample(range(size), size)) for _ in range(many)))
                row = tuple(rng.sample(range(size), size))
                low, high = sorted(rng.sample(range(size + 1), 2))
                self.check(size, (row, row[:low] + row[low:high][::-1] + row[high:]) + (row[::-1],) * (many - 1))

    def test_eight_things(self):
        row = tuple(range(8))
        self.assertEqual(len(stretches(8, (row, row[::-1]))), 36)
        self.assertEqual(len(stretches(8, (row,) * 6)), 36)
        self.assertEqual(len(stretches(8, (row, (3, 0, 4, 7, 1, 5, 2, 6)))), len([lot for lot in plain.lots(8) if lot and is_stretch((row, (3, 0, 4, 7, 1, 5, 2, 6)), lot)]))

    def test_edges(self):
        self.assertEqual((line_of(()), rows_table(0, ((), ())), stretches(0, ((),)), is_stretch(((),), ())), ((0, ()), (0, ()), (), False))
        self.assertEqual((line_of((0,)), stretches(1, ((0,),)), is_stretch(((0,),), (0,))), ((1, ((0,),)), ((0,),), True))

    def test_by_name(self):
        rows = ((0, 1, 2), (1, 0, 2))
        self.assertEqual((line_of(row=(0, 1, 2)), is_stretch(lot=(0, 1), rows=rows)), (LINE, True))
        self.assertEqual((len(stretches(rows=rows, size=3)), rows_table(rows=rows[:1], size=3)[0]), (5, 3))
