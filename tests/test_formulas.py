"""formula_error, table_told, has_formula, formula_of, is_normal, made_normal, formula_count ([G1] to [G6])."""

import itertools
import math
import random

import plain
import plain_formulas
from helper import FAN, LINE, RING, ErrorCase, odd_values, sample_tables, small_tables
from piecetrees.errors import NoFormula, NotFormula
from piecetrees.formulas import (
    formula_count, formula_error, formula_of, formula_text, has_formula, is_normal, made_normal, table_told,
)
from plain_formulas import all_formulas, drawn_formula, told_otherwise


def first_firm(table):
    """The first lot of three or four things whose part is firm."""
    found = [lot for lot in plain.lots(table[0]) if len(lot) in (3, 4) and plain.is_firm(plain.part(table, lot))]
    return found[0] if found else None


def many_tables():
    """Tables of all sizes, more of the small ones."""
    found = [table for seed in range(140, 144) for size in range(9) for table in plain.drawn_tables(seed, size)]
    return found + sample_tables() + small_tables(3, (0, 1)) + small_tables(4, (0, 1))[::37]


def drawn_formulas(seed, many):
    rng = random.Random(seed)
    return [(size, drawn_formula(rng, list(range(size)))) for size in range(1, 9) for _ in range(many)]


def formula_of_tree(tree):
    """The tree with each all knot of the look a as (a, a, sons) and each line knot of looks a and b as (a, b, sons)."""
    if type(tree) is int or tree == ():
        return tree
    return ({1: tree[1] * 2, 2: tree[1]}[len(tree[1])] + (tuple(formula_of_tree(son) for son in tree[2]),))


def nested(many):
    """A value nested so deep, of the thing 0 and of 1 at the bottom."""
    value = 1
    for _ in range(many):
        value = (0, 0, (0, value))
    return value


class FormulaError(ErrorCase):
    def check(self, size, value):
        error = plain_formulas.formula_error(size, value)
        self.assertEqual(repr(formula_error(size, value)), repr(error), (size, value))
        if error is not None:
            for function in (table_told, is_normal, made_normal, formula_text):
                self.check_error(NotFormula(error), function, size, value)
        return error

    def test_formulas(self):
        for size in range(1, 4):
            for formula in all_formulas(size, (0, 1)):
                self.assertIsNone(self.check(size, formula))
                self.assertIsNotNone(self.check(size + 1, formula))
                self.assertEqual(self.check(size - 1, formula), "form")
        for size, formula in drawn_formulas(145, 20):
            self.assertIsNone(self.check(size, formula))
        self.assertIsNone(self.check(0, ()))

    def test_values_of_every_kind(self):
        for size in range(9):
            for value in odd_values():
                self.check(size, value)
        for value in odd_values():
            for made in ((0, 0, value), (0, 0, (0, value)), (value, 0, (0, 1)), (0, value, (0, 1)), (1, 1, (value, value))):
                for size in (1, 2, 3):
                    self.check(size, made)

    def test_spoilt_triples(self):
        good = (3, 99, ((0, 0, (1, 0)), 2))
        self.assertIsNone(self.check(3, good))
        for bad in (
            list(good), (3, 99, list(good[2])), (3, 99, ([0, 0, (1, 0)], 2)), (3, 99, ((0, 0, [1, 0]), 2)), (3, 100, good[2]), (-1, 99, good[2]),
            (True, 99, good[2]), (3, False, good[2]), (3, "9", good[2]), (3, None, good[2]), (3, 99, good[2], 0), (3, good[2]), good[2],
            (3, 99, ((0, 0, (1, 0)),)), (3, 99, ()), (3, 99, ((0, 0, ()), 2)), (3, 99, ((0, 0, (1,)), 0, 2)), (3, 99, ((0, 0, (True, 0)), 2)),
            (3, 99, ((0, 0, (1, 0)), 3)), (3, 99, ((0, 0, (1, 0)), -1)), (3, 99, ((0, 0, (1, 0)), None)), (3, 99, ((0, 0, (1, 0)), "2")),
            (3, 99, (((1, 0),), 2)), (3, 99, ((), 2, 0, 1)), (good,), 0.5, "(0 0/0 1)",
        ):
            self.assertEqual(self.check(3, bad), "form", bad)
        for bad in ((3, 99, ((0, 0, (1, 1)), 2)), (3, 99, (0, 1)), (3, 99, ((0, 0, (1, 0)), 2, 2)), 0, (0, 0, (0, 0)), (3, 99, (2, 1, 0, 2))):
            self.assertEqual(self.check(3, bad), "things", bad)
        self.assertEqual([self.check(1, value) for value in (0, 1, True, False, (), (0, 0, (0, 0)))], [None, "form", "form", "form", "form", "things"])

    def test_deep_values(self):
        for many in (1, 5, 20):
            self.check(2, nested(many))
        # A text may be nested far deeper than a value that is passed.
        self.assertEqual(formula_error(2, nested(5000)), "things")
        self.assertEqual(formula_error(1, nested(5000)), "form")

    def test_by_name(self):
        self.assertIsNone(formula_error(value=0, size=1))


class TableTold(ErrorCase):
    def test_beside_a_plain_reading(self):
        for size in range(1, 4):
            for formula in all_formulas(size, (0, 1)):
                self.assertEqual(repr(table_told(size, formula)), repr(plain_formulas.table_told(size, formula)))
        for size, formula in drawn_formulas(146, 40):
            self.assertEqual(repr(table_told(size, formula)), repr(plain_formulas.table_told(size, formula)))
        self.assertEqual((table_told(0, ()), table_told(1, 0)), ((0, ()), (1, ((0,),))))

    def test_part_of_a_lot(self):
        # What is told of a lot's part is the formula without the other things.
        def without(formula, lot):
            if type(formula) is int:
                return [lot.index(formula)] if formula in lot else []
            parts = tuple(one for part in formula[2] for one in without(part, lot))
            return [(formula[0], formula[1], parts)] if len(parts) > 1 else list(parts)
        for size, formula in drawn_formulas(147, 4):
            table = table_told(size, formula)
            for lot in plain.lots(size)[1:]:
                self.assertEqual(table_told(len(lot), without(formula, lot)[0]), plain.part(table, lot))

    def test_by_name(self):
        self.assertEqual(table_told(formula=(0, 1, (1, 0)), size=2), (2, ((0, 1), (0, 0))))


class HasFormula(ErrorCase):
    def test_beside_all_lots_of_three_and_four(self):
        told = {}
        for table in many_tables():
            lot = first_firm(table)
            self.assertIs(has_formula(table), lot is None)
            told[lot is None] = True
            if lot is None:
                self.assertEqual(table_told(table[0], formula_of(table)), table)
            else:
                self.check_error(NoFormula(lot), formula_of, table)
        self.assertEqual(len(told), 2)

    def test_just_if_there_is_no_firm_knot(self):
        for table in many_tables()[::2]:
            words = [knot[0] for knot in plain.knots_in(plain.tree(table))] if table[0] < 8 else []
            if words:
                self.assertIs(has_formula(table), "firm" not in words)

    def test_by_name(self):
        self.assertEqual((has_formula(table=FAN), has_formula(table=RING)), (True, False))


class Normal(ErrorCase):
    def test_at_the_words_of_the_tree(self):
        found = 0
        for table in many_tables():
            if table[0] < 8 and first_firm(table) is None:
                wanted = formula_of_tree(plain.tree(table))
                self.assertEqual(repr(formula_of(table)), repr(wanted))
                self.assertTrue(plain_formulas.is_normal(wanted))
                self.assertIs(is_normal(table[0], wanted), True)
                found += 1
        self.assertGreater(found, 100)
        self.assertEqual([formula_of(plain.by(size, None)) for size in (0, 1)], [(), 0])

    def test_one_normal_formula_for_each_table(self):
        for size, looks in ((1, (0, 1)), (2, (0, 1, 2)), (3, (0, 1)), (4, (0, 1))):
            told = {}
            for formula in all_formulas(size, looks):
                told.setdefault(plain_formulas.table_told(size, formula), []).append(formula)
            for table, formulas in list(told.items())[::1 if size < 4 else 3]:
                normal = [one for one in formulas if plain_formulas.is_normal(one)]
                self.assertEqual([repr(formula_of(table))], [repr(one) for one in normal])
                for one in formulas[::1 if size < 4 else 7] + normal:
                    self.assertEqual(repr(made_normal(size, one)), repr(normal[0]))
                    self.assertIs(is_normal(size, one), one == normal[0])

    def test_two_formulas_of_one_table(self):
        rng = random.Random(148)
        formulas = drawn_formulas(149, 25)
        for size, formula in formulas:
            normal = made_normal(size, formula)
            self.assertTrue(plain_formulas.is_normal(normal))
            self.assertIs(is_normal(size, formula), plain_formulas.is_normal(formula))
            self.assertEqual(plain_formulas.table_told(size, normal), plain_formulas.table_told(size, formula))
            self.assertEqual(made_normal(size, normal), normal)
            other = told_otherwise(rng, told_otherwise(rng, formula))
            self.assertEqual(made_normal(size, other), normal)
        for (size, one), (_, two) in itertools.product([(s, f) for s, f in formulas if s == 3], repeat=2):
            alike = plain_formulas.table_told(size, one) == plain_formulas.table_told(size, two)
            self.assertIs(made_normal(size, one) == made_normal(size, two), alike)

    def test_spoilt_normal_ones(self):
        self.assertEqual(made_normal(4, (5, 5, (3, (5, 5, (2, (5, 5, (1, 0))))))), (5, 5, (0, 1, 2, 3)))
        self.assertEqual(made_normal(4, (5, 3, (3, (5, 3, (2, (3, 5, (1, 0))))))), (3, 5, (1, 0, 2, 3)))
        self.assertEqual(made_normal(4, (1, 0, (0, (0, 0, (3, 1)), 2))), (0, 1, (2, (0, 0, (1, 3)), 0)))
        for size, formula, wanted in (
            (2, (0, 0, (0, 1)), True), (2, (0, 0, (1, 0)), False), (2, (0, 1, (1, 0)), True), (2, (1, 0, (0, 1)), False),
            (3, (0, 0, (0, (0, 0, (1, 2)))), False), (3, (0, 0, (0, (0, 1, (2, 1)))), True), (3, (0, 1, (0, (0, 1, (2, 1)))), False),
            (3, (0, 1, (0, (1, 0, (2, 1)))), False), (3, (0, 1, (0, (1, 1, (1, 2)))), True), (3, (0, 0, (1, (1, 1, (0, 2)))), False),
            (3, (0, 0, ((1, 1, (0, 2)), 1)), True), (0, (), True), (1, 0, True),
        ):
            self.assertIs(is_normal(size, formula), wanted, formula)

    def test_by_name(self):
        self.assertIs(is_normal(formula=0, size=1), True)
        self.assertEqual(formula_of(table=LINE), (0, 1, (2, 1, 0)))
        self.assertEqual(made_normal(formula=(0, 0, (1, 0)), size=2), (0, 0, (0, 1)))


class FormulaCount(ErrorCase):
    def test_beside_all_formulas(self):
        for size in range(1, 5):
            told = {}
            for formula in all_formulas(size, (0, 1)):
                table = plain_formulas.table_told(size, formula)
                told[table] = told.get(table, 0) + 1
            for table in small_tables(size, (0, 1)):
                self.assertEqual(formula_count(table), told.get(table, 0))

    def test_other_looks(self):
        for size, looks in ((2, (0, 7, 99)), (3, (4, 9, 11))):
            told = [plain_formulas.table_told(size, formula) for formula in all_formulas(size, looks)]
            for table in small_tables(size, looks):
                self.assertEqual(formula_count(table), told.count(table))

    def test_eight_things(self):
        # As many ways to nest a row as there are trees without a knot of one son.
        rows = [plain_formulas.formulas_in_row(tuple(range(size)), [(0, 0)]) for size in range(1, 7)]
        self.assertEqual([len(row) for row in rows], [1, 1, 3, 11, 45, 197])
        for size in range(1, 7):
            ways = [formula for formula in rows[size - 1]]
            self.assertEqual(formula_count(plain.by(size, lambda x, y: 3)), math.factorial(size) * len(ways))
            told = sum(2 ** repr(one).count("(0, 0, (") for one in ways)
            self.assertEqual(formula_count(plain.by(size, lambda x, y: int(x < y))), told)
        self.assertEqual(formula_count(plain.by(8, lambda x, y: 0)), math.factorial(8) * 4279)
        self.assertEqual(formula_count(plain.by(8, lambda x, y: 99 * int(x > y))), self.row_count(8))
        self.assertEqual(formula_count((0, ())), 1)

    def row_count(self, many):
        """The weighted ways for a row, by the number of triples, from plain counts of ways to cut it."""
        ways = {1: {0: 1}}
        for size in range(2, many + 1):
            ways[size] = {}
            for cut in plain_formulas.cuts_of(tuple(range(size))):
                told = {1: 1}
                for part in cut:
                    told_now = {}
                    for (one, count), (two, other) in itertools.product(told.items(), ways[len(part)].items()):
                        told_now[one + two] = told_now.get(one + two, 0) + count * other
                    told = told_now
                for triples, count in told.items():
                    ways[size][triples] = ways[size].get(triples, 0) + count
        return sum(count * 2 ** triples for triples, count in ways[many].items())

    def test_knot_by_knot(self):
        self.assertEqual(formula_count(plain.by(6, lambda x, y: int(x // 3 != y // 3))), 2 * 18 * 18)
        self.assertEqual(formula_count(plain.by(6, lambda x, y: int(x // 3 < y // 3))), 2 * 18 * 18)
        self.assertEqual(formula_count(plain.by(6, lambda x, y: 5 if x // 3 == y // 3 else int(x // 3 < y // 3))), 2 * 18 * 18)
        self.assertEqual(formula_count(plain.by(4, lambda x, y: int(abs(x - y) == 1))), 0)

    def test_by_name(self):
        self.assertEqual(formula_count(table=RING), 0)
