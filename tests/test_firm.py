"""is_firm, firm_lots, first_firm, is_critical, half_web, course_of, critical_word ([D1], [D2], [D6])."""

import itertools
import random
import unittest

import plain
from helper import FAN, LINE, RING, sample_tables, small_tables
from piecetrees.errors import PieceError, Unfit
from piecetrees.firm import course_of, critical_word, firm_lots, first_firm, half_web, is_critical, is_firm

WORDS = ("ring", "bent", "comb")
PATH = plain.by(4, lambda x, y: int(abs(x - y) == 1))


def many_tables():
    """Tables of all sizes, more of the small ones."""
    drawn = [table for seed in range(6) for size in range(7) for table in plain.drawn_tables(seed, size)]
    return drawn + [table for table in sample_tables() if table[0] <= 6] + small_tables(3, (0, 1))


def without(table, x):
    return plain.part(table, [y for y in range(table[0]) if y != x])


def shuffled(rng, table):
    names = rng.sample(range(table[0]), table[0])
    return plain.part(table, names)


def other_ties(web):
    """The web with ties where a web has none, and none where it has."""
    return plain.by(web[0], lambda x, y: 1 - web[1][x][y])


def wanted_half(size):
    half = size // 2
    ties = [(x, half + y) for x in range(half) for y in range(x, half)]
    return plain.by(size, lambda x, y: int((x, y) in ties or (y, x) in ties))


def wanted_course(word, size):
    half, last = size // 2, size - 1
    if word == "comb":
        ahead = [(x, y) for x, y in itertools.combinations(range(last), 2)]
        ahead += [(last, x) if x % 2 == 0 else (x, last) for x in range(last)]
        return plain.by(size, lambda x, y: int((x, y) in ahead))
    ahead = [(x, (x + step) % size) for x in range(size) for step in range(1, half + 1)]
    top = range(size - half, size) if word == "bent" else ()
    return plain.by(size, lambda x, y: int(x > y if x in top and y in top else (x, y) in ahead))


class Firm(unittest.TestCase):
    def test_is_firm(self):
        for table in many_tables():
            self.assertIs(is_firm(table), plain.is_firm(table))
        for size in (7, 8):
            for seed in range(3):
                for table in plain.drawn_tables(seed, size):
                    self.assertIs(is_firm(table), plain.is_firm(table))

    def test_too_few_things(self):
        for table in [(0, ()), (1, ((0,),))] + small_tables(2, (0, 1, 2)):
            self.assertIs(is_firm(table), False)
            self.assertEqual((firm_lots(table), first_firm(table)), ((), None))

    def test_firm_lots(self):
        for table in many_tables():
            found = [lot for lot in plain.lots(table[0]) if plain.is_firm(plain.part(table, lot))]
            self.assertEqual(repr(firm_lots(table)), repr(tuple(found)))
            self.assertEqual(repr(first_firm(table)), repr(found[0] if found else None))

    def test_firm_lots_of_eight_things(self):
        for table in plain.drawn_tables(5, 8):
            found = [lot for lot in plain.lots(8) if plain.is_firm(plain.part(table, lot))]
            self.assertEqual(firm_lots(table), tuple(found))
            self.assertEqual(first_firm(table), found[0] if found else None)

    def test_first_of_four_things(self):
        self.assertEqual(first_firm(PATH), (0, 1, 2, 3))
        self.assertEqual(first_firm(plain.by(8, lambda x, y: int(abs(x - y) == 1))), (0, 1, 2, 3))
        self.assertIsNone(first_firm(FAN))

    def test_three_things_of_an_even_table(self):
        for table in small_tables(3, (0, 1, 2)):
            size, rows = table
            if all(rows[x][y] == rows[y][x] for x in range(3) for y in range(3)):
                self.assertIs(is_firm(table), len({rows[0][1], rows[0][2], rows[1][2]}) == 3)

    def test_by_name(self):
        self.assertEqual((is_firm(table=RING), firm_lots(table=RING), first_firm(table=LINE)), (True, ((0, 1, 2),), None))


class Known(unittest.TestCase):
    def check_unfit(self, function, *given):
        with self.assertRaises(PieceError) as caught:
            function(*given)
        self.assertIs(type(caught.exception), Unfit)

    def test_half_web(self):
        for size in (4, 6, 8):
            self.assertEqual(repr(half_web(size)), repr(wanted_half(size)))

    def test_half_web_of_other_sizes(self):
        for size in (-8, -4, -2, -1, 0, 1, 2, 3, 5, 7, 9, 10, 12, 10 ** 399, -10 ** 399):
            self.check_unfit(half_web, size)

    def test_course_of(self):
        for size in (3, 5, 7):
            for word in WORDS:
                self.assertEqual(repr(course_of(word, size)), repr(wanted_course(word, size)))

    def test_course_of_other_sizes_and_words(self):
        for size in (-7, -3, -1, 0, 1, 2, 4, 6, 8, 9, 11, 10 ** 399, -10 ** 399 + 1):
            for word in (*WORDS, "half"):
                self.check_unfit(course_of, word, size)
        for word in ("", "Ring", "ring ", "half", "rest", "r", "combs", "ringbent"):
            for size in (3, 5, 7):
                self.check_unfit(course_of, word, size)

    def test_by_name(self):
        self.assertEqual(half_web(size=4), wanted_half(4))
        self.assertEqual(course_of(size=3, word="ring"), RING)


class Critical(unittest.TestCase):
    def wanted(self, table):
        return plain.is_firm(table) and not any(plain.is_firm(without(table, x)) for x in range(table[0]))

    def wanted_word(self, table):
        """The word of a table, by trying all names."""
        size, rows = table
        told = []
        if size in (4, 6):
            told = [("half", wanted_half(size)), ("rest", other_ties(wanted_half(size)))]
        elif size in (3, 5, 7):
            told = [(word, wanted_course(word, size)) for word in WORDS]
        seen = {plain.part(table, names) for names in itertools.permutations(range(size))}
        return next((word for word, known in told if known in seen), None)

    def test_is_critical(self):
        for table in many_tables() + [table for seed in range(3) for table in plain.drawn_tables(seed, 7)]:
            self.assertIs(is_critical(table), self.wanted(table))

    def test_known_ones(self):
        rng = random.Random(13)
        for size in (4, 6, 8):
            for table in (half_web(size), other_ties(half_web(size))):
                self.assertIs(is_critical(table), True)
                word = "half" if size == 4 or table == half_web(size) else "rest"
                for _ in range(5):
                    self.assertEqual(critical_word(shuffled(rng, table)), word)
        for size in (3, 5, 7):
            for word in WORDS:
                self.assertIs(is_critical(course_of(word, size)), True)
                for _ in range(5):
                    told = critical_word(shuffled(rng, course_of(word, size)))
                    self.assertEqual(told, "ring" if size == 3 else word)

    def test_all_small_webs_and_courses(self):
        found = {}
        for size in range(6):
            pairs = list(itertools.combinations(range(size), 2))
            for looks in itertools.product((0, 1), repeat=len(pairs)):
                told = dict(zip(pairs, looks))
                for back in (False, True):
                    table = plain.by(size, lambda x, y: told.get((x, y), 1 - told[y, x] if back else told[y, x]) if x > y else told[x, y])
                    wanted = self.wanted_word(table) if self.wanted(table) else None
                    self.assertEqual(critical_word(table), wanted, table)
                    found[wanted] = True
        self.assertEqual(set(found), {None, "half", "ring", "bent", "comb"})

    def test_drawn_webs_and_courses(self):
        rng = random.Random(14)
        for _ in range(400):
            table = plain.drawn_even(rng, 6, (0, 1))
            wanted = self.wanted_word(table) if self.wanted(table) else None
            self.assertEqual(critical_word(table), wanted)
        for _ in range(100):
            table = plain.drawn_course(rng, 7)
            self.assertEqual(critical_word(table) is None, not self.wanted(table))

    def test_other_tables(self):
        # Firm, but not critical; not firm; critical, but no web and no course.
        for size in (5, 6, 7, 8):
            self.assertIsNone(critical_word(plain.by(size, lambda x, y: int(abs(x - y) == 1))))
        for table in (FAN, LINE, (0, ()), (1, ((0,),)), plain.by(8, lambda x, y: 0), plain.by(7, lambda x, y: int(x < y))):
            self.assertIs(is_critical(table), False)
            self.assertIsNone(critical_word(table))
        unlike = (3, ((0, 1, 2), (1, 0, 3), (2, 3, 0)))
        self.assertEqual((is_critical(unlike), critical_word(unlike)), (True, None))
        # As many looks of 1 as in a ring, but no course.
        told = (3, ((0, 1, 0), (1, 0, 0), (1, 0, 0)))
        self.assertEqual((is_critical(told), critical_word(told)), (True, None))
        for table in (half_web(6), course_of("comb", 5), RING, PATH):
            painted = plain.by(table[0], lambda x, y: 2 * table[1][x][y])
            self.assertEqual((is_critical(painted), critical_word(painted)), (True, None))
            order = plain.by(table[0], lambda x, y: int(table[1][x][y] == 1 and x < y))
            self.assertIsNone(critical_word(order))

    def test_by_name(self):
        self.assertEqual((is_critical(table=RING), critical_word(table=RING)), (True, "ring"))
