"""chain_lot, layers, beside_lot, fewest_chains, chains_hold ([H7])."""

import itertools
import random

import plain
import plain_orders
from helper import LINE, ErrorCase, odd_values
from piecetrees.numbers import beside_lot, chain_lot, chains_hold, fewest_chains, layers
from plain_orders import small_orders, wide_orders

EN = (4, ((0, 0, 1, 0), (0, 0, 1, 1), (0, 0, 0, 0), (0, 0, 0, 0)))


def is_chain(table, lot):
    return all(table[1][x][y] == 1 or table[1][y][x] == 1 for x, y in itertools.combinations(lot, 2))


def is_beside(table, lot):
    return not any(table[1][x][y] == 1 for x, y in itertools.permutations(lot, 2))


def widest(table, fits):
    """The first of the lots that fit and have the most things."""
    found = [lot for lot in plain.lots(table[0]) if fits(table, lot)]
    return next(lot for lot in found if len(lot) == max(map(len, found)))


class Chains(ErrorCase):
    def orders(self):
        return small_orders() + wide_orders(180, 4)

    def test_widest_lots(self):
        for table in self.orders():
            self.assertEqual(repr(chain_lot(table)), repr(widest(table, is_chain)))
            self.assertEqual(repr(beside_lot(table)), repr(widest(table, is_beside)))

    def test_layers(self):
        for table in self.orders():
            wanted, left = [], list(range(table[0]))
            while left:
                wanted.append(tuple(x for x in left if not any(table[1][y][x] == 1 for y in left)))
                left = [x for x in left if x not in wanted[-1]]
            self.assertEqual(repr(layers(table)), repr(tuple(wanted)))
            self.assertTrue(all(is_beside(table, lot) for lot in wanted))
            self.assertEqual(len(wanted), len(chain_lot(table)))
            if table[0] < 7:
                self.assertEqual(len(wanted), plain_orders.fewest(table[0], lambda lot: is_beside(table, lot)))

    def test_fewest_chains(self):
        for table in self.orders():
            told = fewest_chains(table)
            self.assertTrue(plain_orders.is_parting(table[0], told, lambda lot: is_chain(table, lot)), told)
            self.assertEqual(len(told), len(beside_lot(table)))
            self.assertEqual(len(told), plain_orders.fewest(table[0], lambda lot: is_chain(table, lot)))
            self.assertIs(chains_hold(table, told), True)

    def test_eight_things(self):
        for table, chain, beside in (
            (plain.by(8, lambda x, y: 0), 1, 8), (plain.by(8, lambda x, y: int(x < y)), 8, 1), (plain.by(8, lambda x, y: int(x // 2 < y // 2)), 4, 2),
            (plain.by(8, lambda x, y: int(x < 4 <= y)), 2, 4), (plain.by(8, lambda x, y: int(x // 4 == y // 4 and x < y)), 4, 2),
        ):
            self.assertEqual([len(told(table)) for told in (chain_lot, layers, beside_lot, fewest_chains)], [chain, chain, beside, beside])

    def test_edges(self):
        self.assertEqual([told((0, ())) for told in (chain_lot, layers, beside_lot, fewest_chains)], [()] * 4)
        self.assertEqual([told((1, ((0,),))) for told in (chain_lot, layers, beside_lot, fewest_chains)], [(0,), ((0,),), (0,), ((0,),)])

    def test_by_name(self):
        self.assertEqual([told(table=EN) for told in (chain_lot, layers, beside_lot)], [(0, 2), ((0, 1), (2, 3)), (0, 1)])
        self.assertEqual(len(fewest_chains(table=EN)), 2)
        self.assertIs(chains_hold(value=((0, 1, 2),), table=LINE), True)


class ChainsHold(ErrorCase):
    def check(self, table, value):
        fits = plain_orders.is_parting(table[0], value, lambda lot: is_chain(table, lot))
        wanted = fits and len(value) == len(widest(table, is_beside))
        self.assertIs(chains_hold(table, value), wanted, (table, value))
        return wanted

    def test_spoilt(self):
        rng = random.Random(181)
        held = 0
        for table in small_orders()[::2] + wide_orders(182, 3):
            for value in plain_orders.spoilt(rng, fewest_chains(table), table[0]):
                held += self.check(table, value)
        self.assertGreater(held, 20)

    def test_all_tuples_of_lots(self):
        for many in range(4):
            for value in itertools.product(plain.lots(4), repeat=many):
                self.check(EN, value)

    def test_values_of_every_kind(self):
        for table in (EN, LINE, (0, ()), (1, ((0,),))):
            for value in odd_values():
                self.check(table, value)
