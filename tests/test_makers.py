"""kinds, makers, makers_hold ([I4])."""

import itertools
import random

import plain
import plain_names
import plain_orders
from helper import FAN, LINE, RING, ErrorCase, odd_values
from piecetrees.renames import kinds, makers, makers_hold, same_count, sames
from plain_names import CUBE, PAIRS, made_of, small_tables_of_names, wide_tables_of_names

EIGHT = plain.by(8, lambda x, y: 3)


class Makers(ErrorCase):
    def check(self, table, found):
        told = makers(table)
        self.assertIs(type(told), tuple)
        self.assertLessEqual(len(told), max(table[0] - 1, 0))
        self.assertTrue(all(plain_names.renamed(table, naming) == table for naming in told))
        self.assertEqual(len(made_of(table[0], told)), found)
        self.assertIs(makers_hold(table, told), True)
        return told

    def test_small_tables(self):
        for table in small_tables_of_names():
            found = plain_names.sames(table)
            self.check(table, len(found))
            lots = {tuple(sorted({naming[x] for naming in found})) for x in range(table[0])}
            self.assertEqual(repr(kinds(table)), repr(plain_orders.in_order(lots)))

    def test_wide_tables(self):
        for table in wide_tables_of_names(210):
            count = same_count(table)
            told = makers(table)
            if count <= 1000:
                self.assertEqual(self.check(table, count), told)
                lots = {tuple(sorted({naming[x] for naming in sames(table)})) for x in range(table[0])}
                self.assertEqual(kinds(table), plain_orders.in_order(lots))
            self.assertLess(len(told), table[0])
            self.assertIs(makers_hold(table, told), True)

    def test_edges(self):
        for size in (0, 1):
            self.assertEqual(makers(plain.by(size, None)), ())
        self.assertEqual((kinds((0, ())), kinds((1, ((0,),)))), ((), ((0,),)))
        self.assertEqual((kinds(EIGHT), kinds(CUBE)), ((tuple(range(8)),),) * 2)
        self.assertEqual(kinds(plain.by(8, lambda x, y: int(x < y))), tuple((x,) for x in range(8)))
        self.assertEqual(kinds(plain.by(8, lambda x, y: int(x == 3 or y == 3))), ((3,), (0, 1, 2, 4, 5, 6, 7)))

    def test_by_name(self):
        self.assertEqual((kinds(table=FAN), makers(table=LINE)), (((2,), (0, 1)), ()))
        self.assertIs(makers_hold(value=((1, 2, 0),), table=RING), True)


class MakersHold(ErrorCase):
    def check(self, table, value):
        fits = type(value) is tuple and all(type(one) is tuple and all(type(x) is int for x in one) for one in value)
        fits = fits and all(one in plain_names.sames(table) for one in value)
        wanted = fits and len(made_of(table[0], value)) == len(plain_names.sames(table))
        self.assertIs(makers_hold(table, value), wanted, (table, value))
        return wanted

    def test_all_tuples_of_sames(self):
        for table in (FAN, LINE, RING, PAIRS, plain.by(3, lambda x, y: 1), plain.by(5, lambda x, y: int((y - x) % 5 in (1, 4))), (0, ()), (1, ((0,),))):
            for many in range(3):
                for value in itertools.product(sames(table), repeat=many):
                    self.check(table, value)

    def test_as_many_namings_that_are_no_sames(self):
        for table in (FAN, LINE, RING, plain.by(3, lambda x, y: int(x == 0)), PAIRS):
            for many in range(1, 3 if table[0] == 3 else 2):
                for value in itertools.product(plain_names.namings(table[0]), repeat=many):
                    self.check(table, value)
        self.assertIs(makers_hold(FAN, ((0, 2, 1),)), False)
        self.assertIs(makers_hold(FAN, ((1, 0, 2),)), True)

    def test_drawn_tuples(self):
        rng = random.Random(211)
        held = 0
        for table in small_tables_of_names():
            found = sames(table)
            for many in (1, 2, 3, 5):
                value = tuple(rng.choice(found) for _ in range(many))
                held += self.check(table, value)
                held += self.check(table, value + makers(table))
            told = makers(table)
            for k in range(len(told)):
                self.check(table, told[:k] + told[k + 1:])
            naming = tuple(rng.sample(range(table[0]), table[0]))
            self.check(table, told + (naming,))
            self.check(table, list(told))
            self.check(table, told + (list(range(table[0])),))
        self.assertGreater(held, 50)

    def test_all_sames(self):
        for table in wide_tables_of_names(212):
            if same_count(table) <= 1000:
                self.assertIs(makers_hold(table, sames(table)[::-1]), True)
                if len(makers(table)) > 0:
                    self.assertIs(makers_hold(table, ()), False)
                    self.assertIs(makers_hold(table, sames(table)[:1] * 300), False)

    def test_eight_things_all_alike(self):
        ring = (1, 2, 3, 4, 5, 6, 7, 0)
        change = (1, 0, 2, 3, 4, 5, 6, 7)
        self.assertIs(makers_hold(EIGHT, (ring, change)), True)
        self.assertIs(makers_hold(EIGHT, (change, ring)), True)
        self.assertIs(makers_hold(EIGHT, (ring,)), False)
        self.assertIs(makers_hold(EIGHT, (change,)), False)
        # Just the even ones: three things go round, or seven.
        self.assertIs(makers_hold(EIGHT, ((1, 2, 0, 3, 4, 5, 6, 7), (0, 2, 3, 4, 5, 6, 7, 1))), False)
        self.assertIs(makers_hold(EIGHT, ((1, 2, 0, 3, 4, 5, 6, 7), (0, 2, 3, 4, 5, 6, 7, 1), change)), True)
        # Two rows of four go each into the other, or stay.
        self.assertIs(makers_hold(EIGHT, ((1, 2, 3, 0, 4, 5, 6, 7), (1, 0, 2, 3, 4, 5, 6, 7), (4, 5, 6, 7, 0, 1, 2, 3))), False)
        self.assertIs(makers_hold(EIGHT, tuple(plain_names.namings(8)[::113])), True)
        self.assertIs(makers_hold(EIGHT, tuple(plain_names.namings(8)[:360])), False)

    def test_values_of_every_kind(self):
        for table in (FAN, LINE, RING, PAIRS, (0, ()), (1, ((0,),)), (2, ((0, 1), (1, 0)))):
            for value in odd_values():
                if not (type(value) is tuple and len(value) > 60 and table[0] < 2):
                    self.check(table, value)
        for value in (((1, 0),), ((True, 0),), ((1, False),), ([1, 0],), ((1, 0, 2),), ((1, 1),), ((0, 1),), ((1, 0), None), [(1, 0)], (1, 0)):
            self.check((2, ((0, 1), (1, 0))), value)
        self.assertIs(makers_hold((0, ()), ((),) * 61), True)
        self.assertIs(makers_hold((0, ()), ()), True)
