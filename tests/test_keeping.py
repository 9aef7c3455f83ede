"""is_keeping, keeping_count, keeping_at, keeping_place, mean_place, share_ahead ([H4] to [H6]), and NotOrder."""

import itertools
import math
import random

import plain
import plain_orders
from helper import FAN, LINE, RING, ErrorCase, odd_values, small_tables
from piecetrees.errors import NotKeeping, NotOrder, TooFar
from piecetrees.numbers import (
    beside_lot, chain_lot, chains_hold, fewest_chains, is_keeping, keeping_at, keeping_count, keeping_place, layers, mean_place, share_ahead,
)
from plain_orders import small_orders, wide_orders

EN = (4, ((0, 0, 1, 0), (0, 0, 1, 1), (0, 0, 0, 0), (0, 0, 0, 0)))
BESIDE = plain.by(8, lambda x, y: 0)


def keeps(table, row):
    pairs = itertools.permutations(range(table[0]), 2)
    return all(row.index(x) < row.index(y) for x, y in pairs if table[1][x][y] == 1)


def keeping_rows(table):
    """All rows that keep an order, ascending."""
    return [row for row in itertools.permutations(range(table[0])) if keeps(table, row)]


def fraction(many, whole):
    common = math.gcd(many, whole)
    return many // common, whole // common


class IsKeeping(ErrorCase):
    def test_all_rows(self):
        for table in small_orders():
            for row in itertools.permutations(range(table[0])):
                self.assertIs(is_keeping(table, row), keeps(table, row))

    def test_values_of_every_kind(self):
        for table in (EN, LINE, (0, ()), (1, ((0,),)), BESIDE):
            for value in odd_values():
                wanted = type(value) is tuple and all(type(x) is int for x in value) and sorted(value) == list(range(table[0]))
                self.assertIs(is_keeping(table, value), wanted and keeps(table, value))
        for value in ((0, 1, 2), [0, 1, 2, 3], (0, 1, 2, 2), (0, True, 2, 3), (0, 1, 2, 4), (0, 1, 2, 3, 3), ((0, 1, 2, 3),), "0123", (0, 1, 2, None)):
            self.assertIs(is_keeping(EN, value), False)
        self.assertIs(is_keeping((0, ()), ()), True)

    def test_by_name(self):
        self.assertIs(is_keeping(value=(0, 1, 2), table=LINE), True)


class Rows(ErrorCase):
    def check(self, table, rows):
        self.assertEqual(keeping_count(table), len(rows))
        for place in range(len(rows)):
            self.assertEqual(repr(keeping_at(table, place)), repr(rows[place]))
            self.assertEqual(keeping_place(table, rows[place]), place)
        for place in (len(rows), len(rows) + 1, 10 ** 399):
            self.check_error(TooFar(len(rows)), keeping_at, table, place)

    def test_all_rows_of_small_orders(self):
        for table in small_orders():
            self.check(table, keeping_rows(table))

    def test_wide_orders(self):
        for table in [order for order in wide_orders(170, 4) if order[0] < 8]:
            rows = keeping_rows(table)
            self.assertEqual(keeping_count(table), len(rows))
            for place in list(range(len(rows)))[::len(rows) // 12 + 1] + [len(rows) - 1]:
                self.assertEqual(keeping_at(table, place), rows[place])
                self.assertEqual(keeping_place(table, rows[place]), place)
        for table in [order for order in wide_orders(171, 6) if order[0] == 8]:
            count = keeping_count(table)
            for place in sorted({0, count - 1, count // 2, count // 3}):
                row = keeping_at(table, place)
                self.assertTrue(keeps(table, row))
                self.assertEqual(keeping_place(table, row), place)
            self.check_error(TooFar(count), keeping_at, table, count)

    def test_eight_things_beside_one_another(self):
        rows = list(itertools.permutations(range(8)))
        self.assertEqual(keeping_count(BESIDE), 40320)
        for place in (0, 1, 2, 719, 5040, 12345, 40318, 40319):
            self.assertEqual(keeping_at(BESIDE, place), rows[place])
            self.assertEqual(keeping_place(BESIDE, rows[place]), place)
        self.check_error(TooFar(40320), keeping_at, BESIDE, 40320)
        self.assertIs(is_keeping(BESIDE, rows[4711]), True)

    def test_rows_that_do_not_keep(self):
        for table in small_orders() + wide_orders(172, 1):
            rows = list(itertools.permutations(range(table[0])))[::1 if table[0] < 6 else 997]
            for row in rows:
                pairs = itertools.permutations(range(table[0]), 2)
                broken = [(x, y) for x, y in pairs if table[1][x][y] == 1 and row.index(x) > row.index(y)]
                if broken:
                    self.check_error(NotKeeping(broken[0]), keeping_place, table, row)

    def test_edges(self):
        self.check((0, ()), [()])
        self.check((1, ((0,),)), [(0,)])
        self.check(plain.by(8, lambda x, y: int(x > y)), [tuple(range(7, -1, -1))])

    def test_by_name(self):
        self.assertEqual((keeping_count(table=EN), keeping_at(place=4, table=EN)), (5, (1, 3, 0, 2)))
        self.assertEqual(keeping_place(row=(1, 0, 2, 3), table=EN), 2)


class Fractions(ErrorCase):
    def check(self, table, rows):
        for x in range(table[0]):
            self.assertEqual(repr(mean_place(table, x)), repr(fraction(sum(row.index(x) for row in rows), len(rows))))
            for y in range(table[0]):
                if x != y:
                    share = fraction(sum(row.index(x) < row.index(y) for row in rows), len(rows))
                    self.assertEqual(repr(share_ahead(table, x, y)), repr(share))

    def test_all_rows(self):
        for table in small_orders():
            self.check(table, keeping_rows(table))

    def test_six_and_seven_things(self):
        for table in [order for order in wide_orders(173, 3) if order[0] < 8]:
            self.check(table, keeping_rows(table))

    def test_eight_things(self):
        self.assertEqual({mean_place(BESIDE, x) for x in range(8)}, {(7, 2)})
        self.assertEqual({share_ahead(BESIDE, x, y) for x, y in itertools.permutations(range(8), 2)}, {(1, 2)})
        line = plain.by(8, lambda x, y: int(x < y))
        self.assertEqual([mean_place(line, x) for x in range(8)], [(x, 1) for x in range(8)])
        self.assertEqual((share_ahead(line, 2, 5), share_ahead(line, 5, 2)), ((1, 1), (0, 1)))
        self.assertEqual(mean_place((1, ((0,),)), 0), (0, 1))

    def test_by_name(self):
        self.assertEqual((mean_place(thing=1, table=EN), share_ahead(other=3, one=0, table=EN)), ((2, 5), (4, 5)))


class NotAnOrder(ErrorCase):
    def test_first_lot(self):
        tables = [table for table in small_tables(3, (0, 1)) + small_tables(2, (0, 1, 2)) if not plain_orders.is_order(table)]
        for table in tables + plain_orders.no_orders(174):
            lot = plain_orders.first_no_order(table)
            self.assertIn(len(lot), (2, 3))
            for function in (keeping_count, chain_lot, layers, beside_lot, fewest_chains):
                self.check_error(NotOrder(lot), function, table)

    def test_ahead_of_all_other_errors(self):
        for table in (RING, FAN, (2, ((0, 2), (0, 0))), (2, ((0, 1), (1, 0))), plain.by(8, lambda x, y: int((y - x) % 8 in (1, 2, 3)))):
            lot = plain_orders.first_no_order(table)
            row = tuple(range(table[0]))
            for value in [*odd_values(), row, row[::-1], ((0,), (1,)), tuple((x,) for x in row)]:
                self.check_error(NotOrder(lot), is_keeping, table, value)
                self.check_error(NotOrder(lot), chains_hold, table, value)
            for place in (0, 10 ** 9):
                self.check_error(NotOrder(lot), keeping_at, table, place)
            for one in (row, row[::-1]):
                self.check_error(NotOrder(lot), keeping_place, table, one)
            for x in row:
                self.check_error(NotOrder(lot), mean_place, table, x)
                self.check_error(NotOrder(lot), share_ahead, table, x, (x + 1) % table[0])
        # A lot of two comes ahead of one of three.
        mixed = plain.by(5, lambda x, y: RING[1][x][y] if max(x, y) < 3 else int({x, y} == {3, 4}))
        self.check_error(NotOrder((3, 4)), keeping_count, mixed)
