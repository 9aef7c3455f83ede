"""same_pairs, about, about_way, about_way_holds ([F7])."""

import itertools
import random

import plain
import plain_webs
from helper import LINE, ErrorCase, odd_values, replaced
from piecetrees.abouts import about, about_way, about_way_holds, same_pairs
from piecetrees.bounds import MAX_ABOUTS
from piecetrees.errors import NotPiece, Unfit
from plain_orders import is_order, orders_of, wide_orders

LINES = plain.by(3, lambda x, y: int(x > y))


def pairs_of(order):
    return {(x, y) for x, y in itertools.combinations(range(order[0]), 2) if order[1][x][y] or order[1][y][x]}


def turned_within(order, lot):
    return plain.by(order[0], lambda x, y: order[1][y][x] if x in lot and y in lot else order[1][x][y])


def wanted_holds(order, other, value):
    """What about_way_holds has to tell, straight from the words of the document."""
    if pairs_of(order) != pairs_of(other) or type(value) is not tuple or len(value) > 60:
        return False
    for lot in value:
        if type(lot) is not tuple or any(type(x) is not int for x in lot) or lot not in plain.lots(order[0]):
            return False
        if not plain.is_piece(order, lot):
            return False
        order = turned_within(order, lot)
    return order == other


def orders_together(seed):
    """Orders with the same pairs, web by web."""
    rng = random.Random(seed)
    found = [plain_webs.turnings(web) for size in range(5) for web in plain_webs.webs_of(size)]
    five = rng.sample(list(plain_webs.webs_of(5)), 60) + [plain.by(5, lambda x, y: 1)]
    found += [rng.sample(orders, min(len(orders), 14)) for orders in map(plain_webs.turnings, five)]
    return [orders for orders in found if orders]


class SamePairs(ErrorCase):
    def test_all_small_orders(self):
        for size in range(4):
            for order, other in itertools.product(orders_of(size), repeat=2):
                self.check(order, other)

    def test_one_pair_more_or_less(self):
        rng = random.Random(120)
        for order in orders_of(4)[::5] + wide_orders(121, 4):
            for x, y in itertools.permutations(range(order[0]), 2):
                other = plain.by(order[0], lambda one, two: 1 - order[1][x][y] if (one, two) == (x, y) else order[1][one][two])
                if is_order(other):
                    self.check(order, other)
                    self.check(other, order)
            self.check(order, plain.drawn_order(rng, order[0]))

    def check(self, order, other):
        apart = sorted(pairs_of(order) ^ pairs_of(other))
        self.assertEqual(repr(same_pairs(order, other)), repr(apart[0] if apart else None))

    def test_unlike_sizes(self):
        for order, other in ((LINE, (2, ((0, 1), (0, 0)))), ((0, ()), (1, ((0,),))), (LINE, plain.by(8, lambda x, y: 0))):
            for one, two in ((order, other), (other, order)):
                self.check_error(Unfit(), same_pairs, one, two)
                self.check_error(Unfit(), about_way, one, two)
                for value in odd_values():
                    self.check_error(Unfit(), about_way_holds, one, two, value)

    def test_by_name(self):
        self.assertIsNone(same_pairs(other=LINE, order=LINE))


class About(ErrorCase):
    def test_each_lot(self):
        rng = random.Random(122)
        orders = [order for size in range(4) for order in orders_of(size)] + orders_of(4)[::9]
        orders += [plain.drawn_order(rng, size) for size in (5, 5, 6, 6)] + wide_orders(123, 1)[:5]
        for order in orders:
            for lot in plain.lots(order[0]):
                if not plain.is_piece(order, lot):
                    self.check_error(NotPiece(lot), about, order, lot)
                    continue
                told = about(order, lot)
                self.assertEqual(repr(told), repr(turned_within(order, lot)))
                self.assertTrue(is_order(told))
                self.assertIsNone(same_pairs(order, told))
                self.assertEqual(about(told, lot), order)

    def test_by_name(self):
        self.assertEqual(about(lot=(0, 1, 2), order=LINE), LINES)


class Way(ErrorCase):
    def check(self, order, other):
        way = about_way(order, other)
        self.assertIs(type(way), tuple)
        self.assertLessEqual(len(way), MAX_ABOUTS)
        self.assertIs(wanted_holds(order, other, way), True, (order, other, way))
        self.assertIs(about_way_holds(order, other, way), True)
        return way

    def test_between_all_orders_of_a_web(self):
        for orders in orders_together(124):
            for order, other in itertools.product(orders, repeat=2):
                self.check(order, other)

    def test_wide_orders(self):
        rng = random.Random(125)
        for order in wide_orders(126, 6):
            other = order
            for _ in range(8):
                other = turned_within(other, rng.choice(plain.pieces(other)))
            self.check(order, other)
            self.check(other, order)

    def test_unlike_pairs(self):
        rng = random.Random(127)
        for order in orders_of(3) + wide_orders(128, 2):
            other = plain.drawn_order(rng, order[0])
            if pairs_of(order) != pairs_of(other):
                self.assertIsNone(about_way(order, other))

    def test_by_name(self):
        self.assertEqual(about_way(other=LINE, order=LINE), ())


class WayHolds(ErrorCase):
    def check(self, order, other, value):
        told = about_way_holds(order, other, value)
        self.assertIs(told, wanted_holds(order, other, value), (order, other, value))
        return told

    def test_spoilt_ways(self):
        rng = random.Random(129)
        held = 0
        for orders in orders_together(130)[::3] + [[order, turned_within(order, range(8))] for order in wide_orders(131, 2)]:
            order, other = rng.choice(orders), rng.choice(orders)
            way = about_way(order, other)
            lots = plain.lots(order[0])
            for k in range(len(way) + 1):
                for lot in rng.sample(lots, min(3, len(lots))):
                    held += self.check(order, other, way[:k] + (lot,) + way[k:])
                    if k < len(way):
                        self.check(order, other, replaced(way, k, lot))
                if k < len(way):
                    self.check(order, other, way[:k] + way[k + 1:])
                    self.check(order, other, way[:k] + way[k:k + 1] * 2 + way[k + 1:])
                    self.check(order, other, way[:k] + way[k:k + 1] * 3 + way[k + 1:])
                    self.check(order, other, replaced(way, k, list(way[k])))
                    self.check(order, other, replaced(way, k, way[k][::-1]))
            self.check(order, other, list(way))
            self.check(order, other, way[::-1])
        self.assertGreater(held, 0)

    def test_just_as_many_as_may_be(self):
        for many, wanted in ((0, True), (58, True), (60, True), (61, False), (62, False), (200, False)):
            self.assertIs(about_way_holds(LINE, LINE, ((0, 1),) * (many // 2 * 2) + ((),) * (many % 2)), wanted)
            self.assertIs(about_way_holds((0, ()), (0, ()), ((),) * many), wanted)
        self.assertIs(about_way_holds(LINE, LINES, ((0, 1, 2),) * 59), True)
        self.assertIs(about_way_holds(LINE, LINES, ((0, 1, 2),) * 61), False)

    def test_values_of_every_kind(self):
        for order, other in ((LINE, LINE), (LINE, LINES), ((0, ()), (0, ())), ((1, ((0,),)),) * 2):
            for value in odd_values():
                self.check(order, other, value)
        # A lot that is no lot of the size, or no piece at its place.
        for value in (((0, 3),), ((0, 2),), ((1, 0),), ((0, True),), ((0, 0, 1),), ((0, 1, 2), (0, 2)), ((-1, 0),)):
            self.assertIs(about_way_holds(LINE, LINES, value), False)

    def test_unlike_pairs(self):
        for value in [*odd_values(), ((0, 1),), ((0, 1, 2),)]:
            self.assertIs(about_way_holds(LINE, plain.by(3, lambda x, y: int(y == 2)), value), False)

    def test_by_name(self):
        self.assertIs(about_way_holds(value=((0, 1, 2),), other=LINES, order=LINE), True)
