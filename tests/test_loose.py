"""loose, class_turned, classes_apart, turning_way, turning_way_holds ([E7])."""

import itertools
import random
import unittest

import plain
import plain_webs
from helper import LINE, replaced
from piecetrees.errors import NotLoose, PieceError
from piecetrees.turnings import class_turned, classes_apart, loose, nth_turning, turning_count, turning_way, turning_way_holds
from plain_webs import small_webs, wide_webs

THREE = plain.by(3, lambda x, y: 1)
TURNED = plain.by(3, lambda x, y: int(x > y))


def about(web, order, arrow):
    """The order with the class of an arrow turned about, by a plain check; None if it is no turning."""
    gone = plain_webs.chains(web, arrow)
    if order[1][arrow[0]][arrow[1]] != 1:
        return None
    other = plain.by(order[0], lambda x, y: order[1][y][x] if (x, y) in gone or (y, x) in gone else order[1][x][y])
    return other if plain_webs.is_turning(web, other) else None


def apart(web, order, other):
    """How many classes one turning takes and the other one does not."""
    taken = [one for one in plain_webs.classes(web) if order[1][one[0][0]][one[0][1]] == 1]
    return len([one for one in taken if other[1][one[0][0]][one[0][1]] != 1])


def wanted_holds(web, order, other, value):
    """What turning_way_holds has to tell, straight from the words of the document."""
    arrows = [repr(one) for one in plain_webs.arrows(web)]
    if type(value) is not tuple or len(value) != apart(web, order, other) or any(repr(one) not in arrows for one in value):
        return False
    for arrow in value:
        order = about(web, order, arrow)
        if order is None:
            return False
    return order == other


def some_turnings(rng, web, many):
    """Some drawn turnings of a web that has one."""
    count = turning_count(web)
    return [nth_turning(web, rng.randrange(count)) for _ in range(many)] if count else []


class LooseCase(unittest.TestCase):
    def check_loose(self, web, order):
        firsts = [one[0] for one in plain_webs.classes(web)]
        wanted = [arrow for arrow in firsts if order[1][arrow[0]][arrow[1]] == 1 and about(web, order, arrow) is not None]
        self.assertEqual(repr(loose(web, order)), repr(tuple(wanted)))
        for arrow in plain_webs.arrows(web):
            told = about(web, order, arrow)
            if told is not None:
                self.assertEqual(repr(class_turned(web, order, arrow)), repr(told))
                continue
            with self.assertRaises(PieceError) as caught:
                class_turned(web, order, arrow)
            self.assertIs(type(caught.exception), NotLoose)
            self.assertEqual(caught.exception.arrow, arrow)

    def check_way(self, web, order, other):
        many = classes_apart(web, order, other)
        self.assertEqual(many, apart(web, order, other))
        way = turning_way(web, order, other)
        self.assertEqual((type(way), len(way)), (tuple, many))
        self.assertIs(wanted_holds(web, order, other, way), True)
        self.assertIs(turning_way_holds(web, order, other, way), True)
        return way

    def check_holds(self, web, order, other, value):
        told = turning_way_holds(web, order, other, value)
        self.assertIs(told, wanted_holds(web, order, other, value), (web, order, other, value))
        return told


class Loose(LooseCase):
    def test_all_turnings_of_small_webs(self):
        for web in small_webs():
            for order in plain_webs.turnings(web)[:40]:
                self.check_loose(web, order)

    def test_wide_webs(self):
        rng = random.Random(70)
        for web in wide_webs(71, 2):
            for order in some_turnings(rng, web, 2):
                self.check_loose(web, order)

    def test_knot_by_knot(self):
        # Between two sons of an all knot just if none is between them; in a firm knot each.
        five = plain.by(5, lambda x, y: 1)
        order = plain.by(5, lambda x, y: int(x < y))
        self.assertEqual(loose(five, order), ((0, 1), (1, 2), (2, 3), (3, 4)))
        path = plain.by(4, lambda x, y: int(abs(x - y) == 1))
        for order in plain_webs.turnings(path):
            self.assertEqual(len(loose(path, order)), 1)

    def test_by_name(self):
        self.assertEqual(loose(order=LINE, web=THREE), ((0, 1), (1, 2)))
        self.assertEqual(class_turned(arrow=(1, 2), order=LINE, web=THREE), (3, ((0, 1, 1), (0, 0, 0), (0, 1, 0))))


class Way(LooseCase):
    def test_between_all_turnings_of_small_webs(self):
        for web in small_webs():
            found = plain_webs.turnings(web)[:12]
            for order, other in itertools.product(found, repeat=2):
                self.check_way(web, order, other)

    def test_wide_webs(self):
        rng = random.Random(72)
        for web in wide_webs(73, 3):
            told = some_turnings(rng, web, 2)
            if told:
                self.check_way(web, *told)
                self.assertEqual(turning_way(web, told[0], told[0]), ())

    def test_longest_way(self):
        full = plain.by(8, lambda x, y: 1)
        line, back = plain.by(8, lambda x, y: int(x < y)), plain.by(8, lambda x, y: int(x > y))
        self.assertEqual(len(self.check_way(full, line, back)), 28)

    def test_by_name(self):
        self.assertEqual(classes_apart(other=TURNED, order=LINE, web=THREE), 3)
        self.assertEqual(len(turning_way(other=TURNED, order=LINE, web=THREE)), 3)


class WayHolds(LooseCase):
    def test_values_of_every_kind(self):
        ways = (((0, 1), (0, 2), (1, 2)), ((1, 2), (0, 2), (0, 1)))
        values = (
            None, True, 0, 3, "", "abc", (), [], {}, ((0, 1),), list(ways[0]), ([0, 1], (0, 2), (1, 2)), ((0, True), (0, 2), (1, 2)),
            ((False, 1), (0, 2), (1, 2)), ((0, 1), (0, 2), (1, 3)), ((0, 1), (0, 2), (1, -1)), ((0, 1), (0, 2), (1, 1)),
            ((0, 1), (0, 2), (1, 2, 0)), ((0, 1), (0, 2), (1,)), ((0, 1), (0, 2), 1), ((0, 1), (0, 2), None), "012",
            ((0, 1), (0, 2), "12"), ((0, 1), (0, 2), ("1", "2")), (0, 1, 2), {0: 1, 1: 2, 2: 3}, ((0, 1), (0, 2), (2, 1)), (ways[0],) * 3,
            tuple([(0, 1), (1, 0)] * 400),
        )
        for value in values:
            self.assertIs(self.check_holds(THREE, LINE, TURNED, value), False)
        for value in ways:
            self.assertIs(self.check_holds(THREE, LINE, TURNED, value), True)

    def test_all_tuples_of_arrows(self):
        arrows = plain_webs.arrows(THREE)
        for order, other in itertools.product(plain_webs.turnings(THREE), repeat=2):
            held = 0
            for many in range(4):
                for value in itertools.product(arrows, repeat=many):
                    held += self.check_holds(THREE, order, other, value)
            self.assertGreater(held, 0)

    def test_an_arrow_more_less_or_elsewhere(self):
        rng = random.Random(74)
        held = 0
        for web in small_webs()[::3] + wide_webs(75, 1):
            told = some_turnings(rng, web, 2)
            if not told:
                continue
            way = turning_way(web, *told)
            arrows = plain_webs.arrows(web)
            values = [way[::-1], way + way[:1], tuple(rng.sample(way, len(way)))]
            for at in rng.sample(range(len(way)), min(4, len(way))):
                x, y = way[at]
                values += [way[:at] + way[at + 1:], replaced(way, at, (y, x)), way[:at] + ((x, y), (y, x)) + way[at:]]
                values.append(replaced(way, at, rng.choice(arrows)))
                # Any arrow of a class tells it.
                values.append(replaced(way, at, rng.choice(sorted(plain_webs.chains(web, way[at])))))
            for value in values:
                held += self.check_holds(web, *told, value)
        self.assertGreater(held, 20)

    def test_no_ties(self):
        for size in range(9):
            flat = plain.by(size, lambda x, y: 0)
            self.assertIs(turning_way_holds(flat, flat, flat, ()), True)
            self.assertIs(turning_way_holds(flat, flat, flat, ((0, 1),)), False)
            self.assertIs(turning_way_holds(flat, flat, flat, []), False)

    def test_by_name(self):
        self.assertIs(turning_way_holds(value=((0, 1), (0, 2), (1, 2)), other=TURNED, order=LINE, web=THREE), True)
