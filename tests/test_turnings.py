"""turning, turning_error, turning_count, turnings, nth_turning, turning_place ([E5], [E6])."""

import itertools
import math
import random
import unittest
from unittest import mock

import plain
import plain_webs
from helper import FAN, LINE, RING, with_look
from piecetrees import turnings as module
from piecetrees.errors import NotTurning, PieceError, TooFar, TooMany
from piecetrees.turnings import (
    class_turned, classes_apart, loose, nth_turning, turning, turning_count, turning_error, turning_place, turning_way,
    turning_way_holds, turnings,
)
from plain_webs import ROUND, small_webs, wide_webs

PATH = plain.by(4, lambda x, y: int(abs(x - y) == 1))
THREE = plain.by(3, lambda x, y: 1)


def full(size):
    return plain.by(size, lambda x, y: 1)


def is_table(value):
    """Whether a value is a table of looks 0 and 1."""
    if type(value) is not tuple or len(value) != 2 or type(value[0]) is not int or not 0 <= value[0] <= 8:
        return False
    size, rows = value
    if type(rows) is not tuple or len(rows) != size or any(type(row) is not tuple or len(row) != size for row in rows):
        return False
    looks = [look for row in rows for look in row]
    return all(type(look) is int and look in (0, 1) for look in looks) and all(rows[x][x] == 0 for x in range(size))


def wanted_error(web, value):
    """What turning_error has to tell, straight from the words of the document."""
    if not is_table(value) or value[0] != web[0]:
        return "table"
    size, rows = value
    for x, y in itertools.combinations(range(size), 2):
        looks = [rows[x][y], rows[y][x]].count(1)
        if looks != 1 if web[1][x][y] == 1 else looks > 0:
            return ("tie", x, y)
    for x, y, z in itertools.product(range(size), repeat=3):
        if rows[x][y] == 1 and rows[y][z] == 1 and rows[x][z] != 1:
            return ("on", x, y, z)
    return None


def few_ties():
    """Webs of six to eight things with so few ties that all ways to turn them may be tried."""
    return [web for web in wide_webs(60, 6) if len(plain_webs.arrows(web)) <= 20]


class TurningCase(unittest.TestCase):
    def check_error(self, kind, told, function, *given):
        with self.assertRaises(PieceError) as caught:
            function(*given)
        self.assertIs(type(caught.exception), kind)
        self.assertEqual(repr(vars(caught.exception)), repr(told))


class Turning(TurningCase):
    def test_any(self):
        for web in small_webs() + few_ties():
            told = turning(web)
            found = plain_webs.turnings(web)
            self.assertEqual(told is None, not found)
            if found:
                self.assertIn(told, found)
                self.assertTrue(is_table(told))

    def test_of_wide_webs(self):
        for web in wide_webs(61, 6):
            told = turning(web)
            if told is not None:
                self.assertTrue(plain_webs.is_turning(web, told))
            self.assertEqual(told is None, any(one in plain_webs.chains(web, one[::-1]) for one in plain_webs.arrows(web)))
        for size in range(9):
            self.assertEqual(turning(plain.by(size, lambda x, y: 0)), plain.by(size, lambda x, y: 0))

    def test_by_name(self):
        self.assertIsNone(turning(web=ROUND))


class TurningError(TurningCase):
    def check(self, web, value):
        told = turning_error(web, value)
        self.assertEqual(repr(told), repr(wanted_error(web, value)))
        return told

    def test_no_table(self):
        values = (
            None, True, 0, 3, "", "line", (), [], {}, (3,), (3, ()), (3, LINE[1], 0), [3, LINE[1]], (3, list(LINE[1])),
            (True, ((0,),)), ("3", LINE[1]), LINE[1], (2, ((0, 1), (0, 0))), (4, PATH[1]), (0, ()), (9, ((0,) * 9,) * 9),
            (3, ((0, 1, 1), (0, 0, 1), [0, 0, 0])), (3, ((0, 1, 1), (0, 0, 1), (0, 0))), (3, ((0, 1, 1), (0, 0, 1), (0, 0, 1))),
            (3, ((0, True, 1), (0, 0, 1), (0, 0, 0))), (3, ((0, 1, 1), (False, 0, 1), (0, 0, 0))), with_look(LINE, 0, 1, 2),
            with_look(LINE, 1, 0, -1), with_look(LINE, 1, 0, 100), with_look(LINE, 1, 0, None), (3, None), {3: LINE[1]},
        )
        for value in values:
            self.assertEqual(self.check(THREE, value), "table", value)
        self.assertEqual(self.check((0, ()), ()), "table")
        self.assertIsNone(self.check((0, ()), (0, ())))
        self.assertIsNone(self.check((1, ((0,),)), (1, ((0,),))))
        self.assertEqual(self.check((1, ((0,),)), (1, ((1,),))), "table")

    def test_all_tables_of_small_webs(self):
        rng = random.Random(62)
        told = {}
        for size in range(4):
            pairs = list(itertools.permutations(range(size), 2))
            for web in plain_webs.webs_of(size):
                for looks in itertools.product((0, 1), repeat=len(pairs)):
                    looks = dict(zip(pairs, looks))
                    error = self.check(web, plain.by(size, lambda x, y: looks[x, y]))
                    told[error if error is None else error[0]] = True
        self.assertEqual(sorted(map(str, told)), ["None", "on", "tie"])
        for web in small_webs() + wide_webs(63, 3):
            for _ in range(5):
                turned_ties = {(x, y): rng.choice((0, 1)) for x, y in plain_webs.arrows(web) if x < y}
                value = plain.by(web[0], lambda x, y: abs(int(x > y) - turned_ties.get((min(x, y), max(x, y)), int(x > y))))
                self.check(web, value)
                if web[0] > 1:
                    x, y = rng.sample(range(web[0]), 2)
                    self.check(web, with_look(value, x, y, 1 - value[1][x][y]))

    def test_first_that_applies(self):
        # A tie taken no way, a tie taken both ways, and what is not tied taken.
        self.assertEqual(self.check(THREE, with_look(LINE, 0, 2, 0)), ("tie", 0, 2))
        self.assertEqual(self.check(THREE, with_look(LINE, 2, 1, 1)), ("tie", 1, 2))
        self.assertEqual(self.check(FAN, (3, ((0, 1, 1), (1, 0, 1), (0, 0, 0)))), ("tie", 0, 1))
        self.assertEqual(self.check(FAN, (3, ((0, 0, 1), (1, 0, 1), (0, 0, 0)))), ("tie", 0, 1))
        self.assertEqual(self.check(THREE, RING), ("on", 0, 1, 2))
        self.assertEqual(self.check(THREE, (3, tuple(zip(*RING[1])))), ("on", 0, 2, 1))
        self.assertEqual(self.check(THREE, with_look(with_look(LINE, 0, 1, 2), 1, 2, 0)), "table")

    def test_raised(self):
        for function, more in ((turning_place, ()), (loose, ()), (class_turned, ((0, 1),))):
            for value in (RING, FAN, PATH, THREE, with_look(LINE, 0, 1, 2)):
                self.check_error(NotTurning, {"error": wanted_error(THREE, value)}, function, THREE, value, *more)
        for function, more in ((classes_apart, ()), (turning_way, ()), (turning_way_holds, ((),))):
            for first, second in ((RING, LINE), (LINE, RING), (RING, FAN), (FAN, RING), (PATH, RING)):
                error = wanted_error(THREE, first) or wanted_error(THREE, second)
                self.check_error(NotTurning, {"error": error}, function, THREE, first, second, *more)

    def test_by_name(self):
        self.assertIsNone(turning_error(value=LINE, web=THREE))


class TurningCount(TurningCase):
    def test_beside_all_turnings(self):
        for web in small_webs() + few_ties():
            self.assertEqual(turning_count(web), len(plain_webs.turnings(web)))

    def test_all_tied(self):
        for size in range(9):
            self.assertEqual(turning_count(full(size)), math.factorial(size))
            self.assertEqual(turning_count(plain.by(size, lambda x, y: 0)), 1)

    def test_knot_by_knot(self):
        path = plain.by(8, lambda x, y: PATH[1][x // 2][y // 2] if x // 2 != y // 2 else 1)
        self.assertEqual(turning_count(path), 2 * 2 ** 4)
        self.assertEqual(turning_count(plain.by(8, lambda x, y: int(x // 4 != y // 4 or abs(x - y) == 1))), 2 * 2 * 2)
        self.assertEqual(turning_count(plain_webs.NOT_ROUND), len(plain_webs.turnings(plain_webs.NOT_ROUND)))

    def test_by_name(self):
        self.assertEqual(turning_count(web=ROUND), 0)


class Turnings(TurningCase):
    def test_in_order(self):
        for web in small_webs() + few_ties():
            self.assertEqual(repr(turnings(web)), repr(tuple(plain_webs.turnings(web))))

    def test_many(self):
        for size in (5, 6):
            rows = [plain_webs.order_of(row, row) for row in itertools.permutations(range(size))]
            self.assertEqual(turnings(full(size)), tuple(sorted(rows)))

    def test_too_many(self):
        for web in (full(7), full(8), plain.by(8, lambda x, y: int(max(x, y) < 6 or min(x, y) > 5))):
            self.check_error(TooMany, {"limit": 1000}, turnings, web)

    def test_just_as_many_as_are_listed(self):
        # No web of eight things has exactly 1000: so the bound is set to what one has.
        with mock.patch.object(module, "MAX_LISTED", 720):
            self.assertEqual(len(turnings(full(6))), 720)
        with mock.patch.object(module, "MAX_LISTED", 719):
            self.check_error(TooMany, {"limit": 719}, turnings, full(6))

    def test_by_name(self):
        self.assertEqual(turnings(web=ROUND), ())


class Places(TurningCase):
    def test_there_and_back(self):
        for web in small_webs() + few_ties():
            found = plain_webs.turnings(web)
            for place, order in enumerate(found[:50]):
                self.assertEqual(repr(nth_turning(web, place)), repr(order))
                self.assertEqual(turning_place(web, order), place)
            for place in (len(found), len(found) + 1, 10 ** 399):
                self.check_error(TooFar, {"count": len(found)}, nth_turning, web, place)

    def test_far_more_than_are_listed(self):
        rng = random.Random(64)
        for size in (7, 8):
            found = sorted(plain_webs.order_of(row, row) for row in rng.sample(list(itertools.permutations(range(size))), 40))
            places = [turning_place(full(size), order) for order in found]
            self.assertEqual(places, sorted(set(places)))
            self.assertEqual([nth_turning(full(size), place) for place in places], found)
            many = math.factorial(size)
            self.check_error(TooFar, {"count": many}, nth_turning, full(size), many)
            # All things look 0 on those ahead of them.
            self.assertEqual(nth_turning(full(size), 0), plain.by(size, lambda x, y: int(x > y)))
            self.assertEqual(nth_turning(full(size), many - 1), plain.by(size, lambda x, y: int(x < y)))

    def test_next_ones_ascend(self):
        rng = random.Random(65)
        for web in wide_webs(66, 4):
            count = turning_count(web)
            if count > 1:
                start = rng.randrange(count - 1)
                row = [nth_turning(web, place) for place in range(start, min(start + 6, count))]
                self.assertEqual(row, sorted(row))
                self.assertEqual(len(set(row)), len(row))
                self.assertTrue(all(plain_webs.is_turning(web, order) for order in row))
                self.assertEqual([turning_place(web, order) for order in row], list(range(start, start + len(row))))

    def test_by_name(self):
        self.assertEqual(nth_turning(place=5, web=THREE), LINE)
        self.assertEqual(turning_place(order=LINE, web=THREE), 5)
