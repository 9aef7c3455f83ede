"""heaviest, fewest_lots, fewest_holds, strewn_lot ([H1] to [H3])."""

import itertools
import random

import plain
import plain_orders
from helper import FAN, LINE, RING, ErrorCase, odd_values, sample_tables, small_tables
from piecetrees.numbers import fewest_holds, fewest_lots, heaviest, strewn_lot
from plain_webs import NOT_ROUND, ROUND

SEVEN = plain.by(7, lambda x, y: int((x - y) % 7 in (1, 6)))
GREAT = 10 ** 30


def many_tables():
    """Tables of all sizes with the looks to ask of each."""
    tables = [table for seed in range(160, 163) for size in range(9) for table in plain.drawn_tables(seed, size)]
    tables += sample_tables()[::3] + [FAN, LINE, RING, ROUND, NOT_ROUND, SEVEN] + small_tables(3, (0, 1))[::5]
    return [(table, look) for table in tables for look in (0, 1, 5)]


def is_clear(table, look, lot):
    return all(table[1][x][y] == look for x, y in itertools.permutations(lot, 2))


def is_strewn(table, look, lot):
    return not any(table[1][x][y] == look == table[1][y][x] for x, y in itertools.combinations(lot, 2))


class Heaviest(ErrorCase):
    def check(self, table, look, weights):
        found = [(sum(weights[x] for x in lot), lot) for lot in plain.lots(table[0]) if is_clear(table, look, lot)]
        most = max(weight for weight, _ in found)
        wanted = next(one for one in found if one[0] == most)
        self.assertEqual(repr(heaviest(table, look, weights)), repr(wanted))

    def test_all_lots(self):
        rng = random.Random(164)
        for table, look in many_tables():
            size = table[0]
            self.check(table, look, tuple(rng.randint(-3, 9) for _ in range(size)))
            self.check(table, look, tuple(rng.choice((-GREAT, GREAT, GREAT - 1, 0, 1)) for _ in range(size)))

    def test_alike_and_below_nought(self):
        for table, look in many_tables()[::4]:
            for weights in ((1,) * 8, (0,) * 8, (-1,) * 8, (GREAT,) * 8, (-GREAT,) * 8, (0, 1) * 4, (1, 0) * 4, (-1, 1) * 4, (2, 1, 1, 0, 0, 1, 1, 2)):
                self.check(table, look, weights[:table[0]])

    def test_edges(self):
        self.assertEqual(heaviest((0, ()), 0, ()), (0, ()))
        self.assertEqual([heaviest((1, ((0,),)), 7, (weight,)) for weight in (GREAT, 0, -1)], [(GREAT, (0,)), (0, ()), (0, ())])
        eight = plain.by(8, lambda x, y: 4)
        self.assertEqual(heaviest(eight, 4, (GREAT,) * 8), (8 * GREAT, tuple(range(8))))
        self.assertEqual(heaviest(eight, 3, (GREAT,) * 8), (GREAT, (0,)))
        # The first lot has the fewest things, and so none of weight 0.
        self.assertEqual(heaviest(eight, 4, (0, 2, 0, 0, 1, -1, 0, 0)), (3, (1, 4)))

    def test_by_name(self):
        self.assertEqual(heaviest(weights=(5, 2, 3), look=1, table=FAN), (8, (0, 2)))


class FewestLots(ErrorCase):
    def test_as_few_as_can_be(self):
        for table, look in many_tables():
            size = table[0]
            told = fewest_lots(table, look)
            self.assertTrue(plain_orders.is_parting(size, told, lambda lot: is_clear(table, look, lot)), told)
            self.assertEqual(len(told), plain_orders.fewest(size, lambda lot: is_clear(table, look, lot)))
            self.assertIs(fewest_holds(table, look, told), True)

    def test_rings(self):
        for table, lots, things in ((ROUND, 3, (0, 2)), (SEVEN, 4, (0, 2, 4))):
            self.assertEqual(len(fewest_lots(table, 1)), lots)
            self.assertEqual(strewn_lot(table, 1), things)
            self.assertEqual((len(fewest_lots(table, 0)), len(strewn_lot(table, 0))), (3, 2))

    def test_edges(self):
        self.assertEqual((fewest_lots((0, ()), 0), fewest_lots((1, ((0,),)), 9)), ((), ((0,),)))
        self.assertEqual(fewest_lots(plain.by(8, lambda x, y: 2), 2), (tuple(range(8)),))
        self.assertEqual(fewest_lots(plain.by(8, lambda x, y: 2), 0), tuple((x,) for x in range(8)))
        self.assertEqual(fewest_lots(LINE, 1), ((0,), (1,), (2,)))

    def test_by_name(self):
        self.assertEqual(len(fewest_lots(look=1, table=FAN)), 2)


class FewestHolds(ErrorCase):
    def check(self, table, look, value):
        fits = plain_orders.is_parting(table[0], value, lambda lot: is_clear(table, look, lot))
        wanted = fits and len(value) == plain_orders.fewest(table[0], lambda lot: is_clear(table, look, lot))
        self.assertIs(fewest_holds(table, look, value), wanted, (table, look, value))
        return wanted

    def test_spoilt(self):
        rng = random.Random(165)
        held = 0
        for table, look in many_tables()[::3]:
            for value in plain_orders.spoilt(rng, fewest_lots(table, look), table[0]):
                held += self.check(table, look, value)
        self.assertGreater(held, 20)

    def test_values_of_every_kind(self):
        for value in odd_values():
            for table in (FAN, LINE, ROUND, (0, ()), (1, ((0,),))):
                self.check(table, 1, value)
                self.check(table, 0, value)

    def test_all_partings(self):
        four = plain.by(4, lambda x, y: int(abs(x - y) == 1))
        lots = plain.lots(4)
        for many in range(4):
            for value in itertools.product(lots, repeat=many):
                self.check(four, 1, value)

    def test_by_name(self):
        self.assertIs(fewest_holds(value=((1,), (0, 2)), look=1, table=FAN), True)


class StrewnLot(ErrorCase):
    def test_beside_all_lots(self):
        for table, look in many_tables():
            found = [lot for lot in plain.lots(table[0]) if is_strewn(table, look, lot)]
            most = max(len(lot) for lot in found)
            self.assertEqual(repr(strewn_lot(table, look)), repr(next(lot for lot in found if len(lot) == most)))

    def test_looks_that_are_told_one_way_alone(self):
        # Just both looks together count: so in a line all things are strewn.
        self.assertEqual((strewn_lot(LINE, 1), strewn_lot(LINE, 0), strewn_lot((0, ()), 0)), ((0, 1, 2), (0, 1, 2), ()))

    def test_by_name(self):
        self.assertEqual(strewn_lot(look=1, table=FAN), (0, 1))
