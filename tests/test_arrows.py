"""forced, arrow_classes, chain, clash, class_knot ([E2] to [E4])."""

import itertools
import random
import unittest

import plain
import plain_webs
from helper import FAN
from piecetrees.arrows import arrow_classes, chain, clash, class_knot, forced
from plain_webs import NOT_ROUND, ROUND, small_webs, wide_webs

PATH = plain.by(4, lambda x, y: int(abs(x - y) == 1))


class Forced(unittest.TestCase):
    def test_beside_a_plain_check(self):
        for web in small_webs() + wide_webs(51, 3):
            for arrow in plain_webs.arrows(web):
                told = forced(web, arrow)
                self.assertEqual(repr(told), repr(tuple(plain_webs.forced(web, arrow))))
                # What forces is forced, too.
                self.assertTrue(all(arrow in forced(web, one) for one in told))

    def test_by_name(self):
        self.assertEqual(forced(arrow=(0, 1), web=PATH), ((2, 1),))


class ArrowClasses(unittest.TestCase):
    def test_beside_a_plain_check(self):
        for web in small_webs() + wide_webs(52, 3):
            self.assertEqual(repr(arrow_classes(web)), repr(tuple(plain_webs.classes(web))))

    def test_no_ties_and_all(self):
        for size in range(9):
            self.assertEqual(arrow_classes(plain.by(size, lambda x, y: 0)), ())
            full = plain.by(size, lambda x, y: 1)
            self.assertEqual(arrow_classes(full), tuple((arrow,) for arrow in plain_webs.arrows(full)))

    def test_by_name(self):
        self.assertEqual(len(arrow_classes(web=ROUND)), 1)


class Chain(unittest.TestCase):
    def test_all_pairs_of_small_webs(self):
        for web in small_webs():
            for arrow in plain_webs.arrows(web):
                told = plain_webs.chains(web, arrow)
                for other in plain_webs.arrows(web):
                    self.assertEqual(repr(chain(web, arrow, other)), repr(told.get(other)))

    def test_drawn_pairs_of_wide_webs(self):
        rng = random.Random(53)
        several = 0
        for web in wide_webs(54, 4):
            arrows = plain_webs.arrows(web)
            for arrow in rng.sample(arrows, min(6, len(arrows))):
                told = plain_webs.chains(web, arrow)
                for other in rng.sample(arrows, min(10, len(arrows))):
                    self.assertEqual(chain(web, arrow, other), told.get(other))
                    several += len(told.get(other, ())) > 3
        self.assertGreater(several, 20)

    def test_itself_and_unlike_classes(self):
        self.assertEqual(chain(PATH, (2, 3), (2, 3)), ((2, 3),))
        self.assertIsNone(chain(PATH, (2, 3), (3, 2)))
        self.assertIsNone(chain(plain.by(3, lambda x, y: 1), (0, 1), (0, 2)))

    def test_first_of_several_shortest(self):
        # Webs in which many chains of the same length lead from one arrow to another one.
        for web in (NOT_ROUND, plain.by(6, lambda x, y: int(x % 2 != y % 2))):
            for arrow, other in itertools.product(plain_webs.arrows(web), repeat=2):
                self.assertEqual(chain(web, arrow, other), plain_webs.chains(web, arrow).get(other))

    def test_by_name(self):
        self.assertEqual(chain(other=(2, 3), arrow=(0, 1), web=PATH), ((0, 1), (2, 1), (2, 3)))


class Clash(unittest.TestCase):
    def wanted(self, web):
        for x, y in plain_webs.arrows(web):
            told = plain_webs.chains(web, (x, y)).get((y, x))
            if told is not None:
                return told
        return None

    def test_beside_a_plain_check(self):
        clashing = 0
        for web in small_webs() + wide_webs(55, 6):
            told = clash(web)
            self.assertEqual(repr(told), repr(self.wanted(web)))
            clashing += told is not None
        self.assertGreaterEqual(clashing, 10)

    def test_first_arrow_whose_class_clashes(self):
        # Ties that clash among the last five things, and one that does not ahead of them.
        web = plain.by(7, lambda x, y: ROUND[1][x - 2][y - 2] if min(x, y) >= 2 else int(max(x, y) == 1))
        self.assertEqual(clash(web)[0], (2, 3))
        self.assertEqual(clash(web), self.wanted(web))

    def test_clashing_just_if_without_turning(self):
        for web in small_webs():
            self.assertEqual(clash(web) is None, bool(plain_webs.turnings(web)))

    def test_by_name(self):
        self.assertIsNone(clash(web=PATH))


class ClassKnot(unittest.TestCase):
    def check(self, web):
        found = plain_webs.classes(web)
        strong = [lot for lot in plain.strong(web) if len(lot) > 1]
        for arrow in plain_webs.arrows(web):
            piece, word, lots = class_knot(web, arrow)
            self.assertEqual(piece, [lot for lot in strong if set(arrow) <= set(lot)][0])
            tree = plain.tree(plain.part(web, piece))
            sons = [tuple(sorted(piece[k] for k in plain.things_in(son))) for son in tree[2]]
            x, y = arrow
            own = [one for one in found if arrow in one][0]
            contrary = [one for one in found if (y, x) in one][0]
            self.assertEqual((type(lots), word), (tuple, tree[0]))
            if word == "all":
                self.assertEqual(lots, tuple(son for son in sons if x in son or y in son))
                here, there = lots if x in lots[0] else lots[::-1]
                self.assertEqual(own, tuple(sorted(itertools.product(here, there))))
            else:
                self.assertEqual((word, lots), ("firm", tuple(sons)))
                between = [(a, b) for son in sons for a in son for b in piece if b not in son and web[1][a][b] == 1]
                self.assertEqual(sorted({*own, *contrary}), sorted(between))

    def test_small_webs(self):
        for web in small_webs():
            self.check(web)

    def test_wide_webs(self):
        for web in wide_webs(56, 2):
            self.check(web)

    def test_sons_that_are_pieces(self):
        # A path of four sons, each of which has two things; and three sons that are all tied.
        path = plain.by(8, lambda x, y: PATH[1][x // 2][y // 2] if x // 2 != y // 2 else 0)
        self.assertEqual(class_knot(path, (0, 3)), (tuple(range(8)), "firm", ((0, 1), (2, 3), (4, 5), (6, 7))))
        three = plain.by(6, lambda x, y: int(x % 3 != y % 3))
        self.assertEqual(class_knot(three, (5, 1)), (tuple(range(6)), "all", ((1, 4), (2, 5))))

    def test_by_name(self):
        self.assertEqual(class_knot(arrow=(0, 2), web=FAN), ((0, 1, 2), "all", ((0, 1), (2,))))
