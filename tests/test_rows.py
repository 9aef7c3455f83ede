"""is_row, rest, drawn, orders_of, rows_of, draw, draw_holds, draw_paper, draw_count, nth_draw, draw_place, twisted ([F1] to [F6])."""

import itertools
import math
import random
import unittest

import plain
import plain_webs
from helper import FAN, LINE, RING, replaced
from piecetrees.errors import NotDrawn, PieceError, TooFar, Unfit
from piecetrees.rows import (
    draw, draw_count, draw_holds, draw_paper, draw_place, drawn, is_row, nth_draw, orders_of, rest, rows_of, twisted,
)
from plain_webs import NOT_ROUND, ROUND, small_webs, wide_webs

PATH = plain.by(4, lambda x, y: int(abs(x - y) == 1))


def rows(size):
    """All rows of a size, ascending."""
    return list(itertools.permutations(range(size)))


def all_draws(size):
    """The pairs of rows that draw each web of a size, ascending."""
    found = {}
    for pair in itertools.product(rows(size), repeat=2):
        found.setdefault(plain_webs.drawn(*pair), []).append(pair)
    return found


def draws(web):
    """All pairs of rows that draw a web, ascending; a second row is told by the first one."""
    found = []
    for row in rows(web[0]):
        before = {x: sum((row.index(y) < row.index(x)) != bool(web[1][x][y]) for y in row if y != x) for x in row}
        other = tuple(sorted(row, key=lambda x: before[x]))
        if plain_webs.drawn(row, other) == web:
            found.append((row, other))
    return found


def drawn_rows(rng, size):
    return tuple(rng.sample(range(size), size)), tuple(rng.sample(range(size), size))


class RowCase(unittest.TestCase):
    def check_error(self, kind, told, function, *given):
        with self.assertRaises(PieceError) as caught:
            function(*given)
        self.assertIs(type(caught.exception), kind)
        self.assertEqual(repr(vars(caught.exception)), repr(told))


class IsRow(RowCase):
    def test_rows(self):
        for size in range(6):
            for row in rows(size):
                self.assertIs(is_row(size, row), True)
                for other in {0, 1, 2, 3, 4, 5, 6, 7, 8} - {size}:
                    self.assertIs(is_row(other, row), False)

    def test_values_of_every_kind(self):
        values = (
            None, True, 0, 3, "", "012", [], {}, [0, 1, 2], (0, 1), (0, 1, 3), (0, 1, -1), (0, 1, 1), (0, 1, True), (False, 1, 2),
            (0, 1, 2, 2), (0, 1, None), (0, 1, "2"), (0, 1, (2,)), ((0, 1, 2),), {0: 0, 1: 1, 2: 2}, (0, 1, 10 ** 399), (0, 1, [2]),
        )
        for value in values:
            self.assertIs(is_row(3, value), False, value)
        self.assertIs(is_row(0, ()), True)
        for value in (None, [], "", {}, False, 0):
            self.assertIs(is_row(0, value), False)

    def test_by_name(self):
        self.assertIs(is_row(value=(0, 2, 1), size=3), True)


class Drawn(RowCase):
    def test_rest(self):
        for web in small_webs() + wide_webs(80, 2):
            self.assertEqual(repr(rest(web)), repr(plain_webs.rest(web)))
            self.assertEqual(rest(rest(web)), web)

    def test_small_rows(self):
        for size in range(5):
            for row, other in itertools.product(rows(size), repeat=2):
                self.check(row, other)

    def test_wide_rows(self):
        rng = random.Random(81)
        for size in (5, 6, 7, 8):
            for _ in range(60):
                self.check(*drawn_rows(rng, size))

    def check(self, row, other):
        web = drawn(row, other)
        self.assertEqual(repr(web), repr(plain_webs.drawn(row, other)))
        order, apart = orders_of(row, other)
        self.assertEqual(repr(order), repr(plain_webs.order_of(row, other[::-1])))
        self.assertEqual(repr(apart), repr(plain_webs.order_of(row, other)))
        self.assertTrue(plain_webs.is_turning(web, order))
        self.assertTrue(plain_webs.is_turning(plain_webs.rest(web), apart))
        self.assertIs(type(orders_of(row, other)), tuple)
        self.assertEqual(repr(rows_of(order, apart)), repr((row, other)))

    def test_all_pairs_of_turnings(self):
        # Each pair of a turning of a web and one of its rest belongs to one pair of rows.
        for web, pairs in all_draws(4).items():
            told = [rows_of(*both) for both in itertools.product(plain_webs.turnings(web), plain_webs.turnings(plain_webs.rest(web)))]
            self.assertEqual(sorted(told), pairs)

    def test_unfit(self):
        for row, other in (((), (0,)), ((0, 1), (0, 1, 2)), ((0, 1, 2), (1, 0)), (tuple(range(8)), tuple(range(7)))):
            for function in (drawn, orders_of, twisted):
                self.check_error(Unfit, {}, function, row, other)
        flat = plain.by(3, lambda x, y: 0)
        for order, other in (
            (LINE, LINE), (flat, flat), (LINE, plain.by(3, lambda x, y: int(x == 0))), (plain.by(3, lambda x, y: int(y == 2)), flat),
            (LINE, plain.by(2, lambda x, y: 0)), (plain.by(2, lambda x, y: 0), LINE), ((0, ()), (1, ((0,),))), (flat, plain.by(4, lambda x, y: 0)),
        ):
            self.check_error(Unfit, {}, rows_of, order, other)
        rng = random.Random(82)
        for _ in range(100):
            row, other = drawn_rows(rng, 5)
            order, apart = plain_webs.order_of(row, other[::-1]), plain_webs.order_of(*drawn_rows(rng, 5))
            fits = all(
                bool(order[1][x][y] or order[1][y][x]) != bool(apart[1][x][y] or apart[1][y][x])
                for x, y in itertools.combinations(range(5), 2)
            )
            if not fits:
                self.check_error(Unfit, {}, rows_of, order, apart)

    def test_by_name(self):
        self.assertEqual(rest(web=FAN), (3, ((0, 1, 0), (1, 0, 0), (0, 0, 0))))
        self.assertEqual(drawn(other=(1, 0), row=(0, 1)), (2, ((0, 1), (1, 0))))
        self.assertEqual(orders_of(other=(1, 0), row=(0, 1)), ((2, ((0, 1), (0, 0))), (2, ((0, 0), (0, 0)))))
        self.assertEqual(rows_of(other=plain.by(3, lambda x, y: 0), order=LINE), ((0, 1, 2), (2, 1, 0)))


class Draw(RowCase):
    def test_small_webs(self):
        found = {size: all_draws(size) for size in range(5)}
        for size in range(5):
            for web in plain_webs.webs_of(size):
                pairs = found[size].get(web, [])
                told = draw(web)
                self.assertEqual(told is None, not pairs)
                if pairs:
                    self.assertIn(told, pairs)
                    self.assertIsNone(draw_paper(web))

    def test_wide_webs(self):
        for web in wide_webs(83, 5) + list(plain_webs.webs_of(5))[::11]:
            told, paper = draw(web), draw_paper(web)
            self.assertEqual(told is None, paper is not None)
            if told is not None:
                self.assertEqual(plain_webs.drawn(*told), web)
                self.assertIs(draw_holds(web, told), True)
            else:
                word, chain = paper
                other = web if word == "tied" else plain_webs.rest(web)
                self.check_paper(other, chain)
                if word == "apart":
                    self.assertTrue(all(one[::-1] not in plain_webs.chains(web, one) for one in plain_webs.arrows(web)))

    def check_paper(self, web, chain):
        clashing = [one for one in plain_webs.arrows(web) if one[::-1] in plain_webs.chains(web, one)]
        self.assertEqual(chain, plain_webs.chains(web, clashing[0])[clashing[0][::-1]])

    def test_paper(self):
        # The round web of five is its own rest but for names; that of six has a turning, its rest has not.
        self.assertEqual(draw_paper(ROUND)[0], "tied")
        self.assertEqual([draw_paper(plain_webs.rest(web))[0] for web in (ROUND, NOT_ROUND)], ["tied", "apart"])
        self.assertEqual(draw_paper(NOT_ROUND)[0], "tied")
        self.check_paper(NOT_ROUND, draw_paper(plain_webs.rest(NOT_ROUND))[1])

    def test_by_name(self):
        self.assertEqual((draw(web=ROUND), draw_paper(web=FAN)), (None, None))


class DrawHolds(RowCase):
    def test_all_pairs(self):
        for size in range(5):
            found = all_draws(size)
            for web in list(plain_webs.webs_of(size))[::3]:
                for pair in itertools.product(rows(size), repeat=2):
                    self.assertIs(draw_holds(web, pair), pair in found.get(web, []))

    def test_values_of_every_kind(self):
        good = ((0, 2, 1, 3), (1, 0, 3, 2))
        self.assertIs(draw_holds(PATH, good), True)
        values = (
            None, True, 0, "", "ab", (), [], {}, good[0], list(good), (list(good[0]), good[1]), (good[0], list(good[1])), good + good,
            (good[0],), (good[0], None), (0, 1), ((0, 2, True, 3), good[1]), (good[0], (1, False, 3, 2)), (good[0], (1, 0, 3)),
            (good[0], (1, 0, 3, 2, 4)), (good[0], (1, 0, 3, 3)), ((), ()), {0: good[0], 1: good[1]}, ("0213", "1032"), (good, good),
            good[::-1] + ((),), (good[0], good[0]), ((0, 1, 2), (2, 1, 0)), ((0, 1, 2, 3, 4), (4, 3, 2, 1, 0)),
        )
        for value in values:
            self.assertIs(draw_holds(PATH, value), False, value)
        self.assertIs(draw_holds((0, ()), ((), ())), True)
        self.assertIs(draw_holds((0, ()), ()), False)

    def test_by_name(self):
        self.assertIs(draw_holds(value=((0, 2, 1, 3), (1, 0, 3, 2)), web=PATH), True)


class Places(RowCase):
    def check(self, web, pairs):
        self.assertEqual(draw_count(web), len(pairs))
        for place, pair in list(enumerate(pairs))[:40]:
            self.assertEqual(repr(nth_draw(web, place)), repr(pair))
            self.assertEqual(draw_place(web, *pair), place)
        for place in (len(pairs), len(pairs) + 7, 10 ** 399):
            self.check_error(TooFar, {"count": len(pairs)}, nth_draw, web, place)

    def test_small_webs(self):
        for size in range(5):
            found = all_draws(size)
            for web in plain_webs.webs_of(size):
                self.check(web, found.get(web, []))

    def test_webs_of_five_and_six(self):
        rng = random.Random(84)
        for web in rng.sample(list(plain_webs.webs_of(5)), 60) + [web for web in wide_webs(85, 3) if web[0] == 6]:
            self.check(web, draws(web))

    def test_eight_things(self):
        rng = random.Random(86)
        for web in [web for web in wide_webs(87, 6) if web[0] == 8]:
            count = draw_count(web)
            places = sorted(rng.sample(range(count), min(count, 6)))
            told = [nth_draw(web, place) for place in places]
            self.assertEqual(told, sorted(told))
            self.assertTrue(all(plain_webs.drawn(*pair) == web for pair in told))
            self.assertEqual([draw_place(web, *pair) for pair in told], places)
            self.check_error(TooFar, {"count": count}, nth_draw, web, count)

    def test_eight_tied_and_none(self):
        for look in (0, 1):
            web = plain.by(8, lambda x, y: look)
            self.assertEqual(draw_count(web), math.factorial(8))
            for place, row in list(enumerate(rows(8)))[::5011] + [(40319, tuple(range(7, -1, -1)))]:
                pair = (row, row[::-1] if look else row)
                self.assertEqual(nth_draw(web, place), pair)
                self.assertEqual(draw_place(web, *pair), place)

    def test_one_web_of_eight_things_in_full(self):
        web = plain.by(8, lambda x, y: PATH[1][x // 2][y // 2] if x // 2 != y // 2 else x // 2 % 2)
        found = draws(web)
        self.assertEqual(len(found), 4 * 2 ** 4)
        self.check(web, found)

    def test_unfit_and_not_drawn(self):
        web = PATH
        for row, other in (((), ()), ((0, 1, 2), (2, 1, 0)), ((0, 2, 1, 3), (1, 0, 2)), ((0, 1, 2), (1, 0, 3, 2)), (tuple(range(5)),) * 2):
            self.check_error(Unfit, {}, draw_place, web, row, other)
        rng = random.Random(88)
        for web in small_webs()[5:] + wide_webs(89, 1):
            for _ in range(5):
                row, other = drawn_rows(rng, web[0])
                found = plain_webs.drawn(row, other)
                if found != web:
                    self.check_error(NotDrawn, {"web": found}, draw_place, web, row, other)

    def test_by_name(self):
        three = plain.by(3, lambda x, y: 1)
        self.assertEqual((draw_count(web=three), nth_draw(place=0, web=three)), (6, ((0, 1, 2), (2, 1, 0))))
        self.assertEqual(draw_place(other=(0, 1, 2), row=(2, 1, 0), web=three), 5)


class Twisted(RowCase):
    def wanted(self, row, other):
        for lot in itertools.combinations(range(len(row)), 4):
            a, b, c, d = sorted(lot, key=row.index)
            for way in ((b, d, a, c), (c, a, d, b)):
                if [other.index(x) for x in way] == sorted(other.index(x) for x in way):
                    return lot
        return None

    def test_all_rows_of_four_things(self):
        found = 0
        for row, other in itertools.product(rows(4), repeat=2):
            told = twisted(row, other)
            self.assertEqual(told, self.wanted(row, other))
            self.assertEqual(told is not None, plain.is_firm(plain_webs.drawn(row, other)))
            found += told is not None
        self.assertEqual(found, 24 * 2)

    def test_drawn_rows(self):
        rng = random.Random(90)
        none = 0
        for size in (5, 6, 7, 8, 8):
            for _ in range(60):
                row, other = drawn_rows(rng, size)
                told = twisted(row, other)
                self.assertEqual(repr(told), repr(self.wanted(row, other)))
                none += told is None
        self.assertGreater(none, 0)

    def test_just_if_there_is_a_firm_knot(self):
        rng = random.Random(91)
        for size in (4, 5, 6, 7):
            for _ in range(15):
                row, other = drawn_rows(rng, size)
                words = [knot[0] for knot in plain.knots_in(plain.tree(plain_webs.drawn(row, other)))]
                self.assertEqual(twisted(row, other) is not None, "firm" in words)

    def test_too_few_things(self):
        for size in range(4):
            for row, other in itertools.product(rows(size), repeat=2):
                self.assertIsNone(twisted(row, other))

    def test_by_name(self):
        self.assertEqual(twisted(other=(1, 3, 0, 2), row=(0, 1, 2, 3)), (0, 1, 2, 3))
