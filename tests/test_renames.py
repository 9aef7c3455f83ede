"""renaming, alike_count, round_naming, is_same, same_count, sames, same_at, same_place, behind, normal ([I1] to [I3], [I5])."""

import itertools
import math
import random
from unittest import mock

import plain
import plain_names
from helper import FAN, LINE, RING, ErrorCase, small_tables, with_look
from piecetrees import renames as module
from piecetrees.errors import NotSame, TooFar, TooMany, Unfit
from piecetrees.renames import (
    alike_count, behind, is_same, normal, renaming, round_naming, same_at, same_count, same_place, sames,
)
from plain_names import CUBE, PAIRS, namings, renamed, shuffled, small_tables_of_names, wide_tables_of_names

EIGHT = plain.by(8, lambda x, y: 3)


class Renaming(ErrorCase):
    def wanted(self, table, other):
        return next((naming for naming in namings(table[0]) if renamed(table, naming) == other), None)

    def test_beside_all_namings(self):
        rng = random.Random(200)
        for table in small_tables_of_names():
            other, _ = shuffled(rng, table)
            near = other
            if table[0] > 1:
                x, y = rng.sample(range(table[0]), 2)
                near = with_look(other, x, y, 1 - min(other[1][x][y], 1))
            for one in (other, near, table, plain.drawn_table(rng, table[0], (0, 1))):
                self.assertEqual(repr(renaming(table, one)), repr(self.wanted(table, one)))
            self.assertEqual(repr(round_naming(table)), repr(self.wanted(table, plain.by(table[0], lambda x, y: table[1][y][x]))))

    def test_all_tables_of_three_things(self):
        tables = small_tables(3, (0, 1))
        for table, other in itertools.product(tables, tables[::3]):
            self.assertEqual(renaming(table, other), self.wanted(table, other))

    def test_wide_tables(self):
        rng = random.Random(201)
        for table in wide_tables_of_names(202):
            other, naming = shuffled(rng, table)
            told = renaming(table, other)
            self.assertEqual(renamed(table, told), other)
            self.assertLessEqual(told, naming)
            x, y = rng.sample(range(table[0]), 2)
            self.assertIsNone(renaming(table, with_look(other, x, y, 98)))
            told = round_naming(table)
            if told is not None:
                self.assertEqual(renamed(table, told), plain.by(table[0], lambda x, y: table[1][y][x]))

    def test_eight_things_that_are_hard_to_tell(self):
        # As many ties at each thing, but not alike.
        ring = plain.by(8, lambda x, y: int((x - y) % 8 in (1, 7)))
        rings = plain.by(8, lambda x, y: int(x // 4 == y // 4 and (x - y) % 4 in (1, 3)))
        mixed = plain.by(8, lambda x, y: int((x - y) % 8 in (1, 4, 7)))
        for one, two in itertools.permutations((ring, rings, mixed, CUBE), 2):
            self.assertIsNone(renaming(one, two))
        for one in (ring, rings, mixed, CUBE):
            self.assertEqual(renaming(one, one), tuple(range(8)))
        course = plain.by(7, lambda x, y: int((y - x) % 7 in (1, 2, 4)))
        other = plain.by(7, lambda x, y: int((y - x) % 7 in (1, 2, 3)))
        self.assertIsNone(renaming(course, other))
        self.assertEqual(renaming(course, plain.by(7, lambda x, y: course[1][y][x])), round_naming(course))

    def test_unlike_sizes(self):
        for table, other in ((FAN, PAIRS), (PAIRS, FAN), ((0, ()), (1, ((0,),))), (EIGHT, LINE)):
            self.check_error(Unfit(), renaming, table, other)

    def test_no_things(self):
        self.assertEqual((renaming((0, ()), (0, ())), round_naming((0, ())), renaming((1, ((0,),)), (1, ((0,),)))), ((), (), (0,)))

    def test_by_name(self):
        self.assertEqual((renaming(other=LINE, table=LINE), round_naming(table=RING)), ((0, 1, 2), (0, 2, 1)))


class AlikeCount(ErrorCase):
    def test_beside_all_namings(self):
        for table in small_tables_of_names():
            self.assertEqual(alike_count(table), len({renamed(table, naming) for naming in namings(table[0])}))

    def test_times_same_count(self):
        for table in wide_tables_of_names(203):
            self.assertEqual(alike_count(table) * same_count(table), math.factorial(table[0]))
        self.assertEqual((alike_count(EIGHT), alike_count(plain.by(8, lambda x, y: int(x < y))), alike_count((0, ()))), (1, 40320, 1))

    def test_by_name(self):
        self.assertEqual(alike_count(table=FAN), 3)


class Sames(ErrorCase):
    def test_beside_all_namings(self):
        for table in small_tables_of_names():
            found = plain_names.sames(table)
            self.assertEqual(repr(sames(table)), repr(tuple(found)))
            self.assertEqual(same_count(table), len(found))
            for naming in namings(table[0]):
                self.assertIs(is_same(table, naming), naming in found)
                if naming not in found:
                    self.check_error(NotSame(naming), same_place, table, naming)
            for place in range(len(found)):
                self.assertEqual(repr(same_at(table, place)), repr(found[place]))
                self.assertEqual(same_place(table, found[place]), place)
            for place in (len(found), len(found) + 1, 10 ** 399):
                self.check_error(TooFar(len(found)), same_at, table, place)

    def test_wide_tables(self):
        for table in wide_tables_of_names(204):
            count = same_count(table)
            if count > 1000:
                self.check_error(TooMany(1000), sames, table)
            else:
                found = sames(table)
                self.assertEqual((len(found), len(set(found)), list(found)), (count, count, sorted(found)))
                self.assertTrue(all(renamed(table, naming) == table for naming in found))
            for place in sorted({0, 1 % count, count // 2, count - 1}):
                naming = same_at(table, place)
                self.assertEqual(same_place(table, naming), place)
                self.assertTrue(count > 1000 or naming == found[place])
            self.check_error(TooFar(count), same_at, table, count)
            if table[0] < 8:
                self.assertEqual(count, len(plain_names.sames(table)))

    def test_known_counts(self):
        for table, count in (
            (EIGHT, 40320), (CUBE, 48), (plain.by(8, lambda x, y: int((x - y) % 8 in (1, 7))), 16), (plain.by(8, lambda x, y: int((y - x) % 8 == 1)), 8),
            (plain.by(8, lambda x, y: int(x // 4 == y // 4)), 2 * 24 * 24), (plain.by(8, lambda x, y: int(x // 2 == y // 2)), 24 * 16), (PAIRS, 8),
            (plain.by(8, lambda x, y: int(x < y)), 1), (plain.by(8, lambda x, y: int((x, y) == (6, 7))), 720), ((0, ()), 1), ((1, ((0,),)), 1),
            (plain.by(7, lambda x, y: int((y - x) % 7 in (1, 2, 4))), 21), (plain.by(7, lambda x, y: x == 3 or y == 3), 720),
        ):
            self.assertEqual(same_count((table[0], table[1])), count)

    def test_eight_things_all_alike(self):
        rows = namings(8)
        self.check_error(TooMany(1000), sames, EIGHT)
        for place in (0, 1, 2, 3, 5039, 5040, 20000, 40318, 40319):
            self.assertEqual(same_at(EIGHT, place), rows[place])
            self.assertEqual(same_place(EIGHT, rows[place]), place)
        self.check_error(TooFar(40320), same_at, EIGHT, 40320)
        self.assertIs(is_same(EIGHT, rows[12345]), True)

    def test_just_as_many_as_are_listed(self):
        # No table of eight things has exactly 1000 sames: so the bound is set to what one has.
        six = plain.by(6, lambda x, y: 0)
        self.assertEqual(sames(six), tuple(namings(6)))
        with mock.patch.object(module, "MAX_SAMES", 720):
            self.assertEqual(len(sames(six)), 720)
        with mock.patch.object(module, "MAX_SAMES", 719):
            self.check_error(TooMany(719), sames, six)
        self.check_error(TooMany(1000), sames, plain.by(7, lambda x, y: 0))

    def test_by_name(self):
        self.assertEqual((same_count(table=FAN), sames(table=LINE), same_at(place=1, table=FAN)), (2, ((0, 1, 2),), (1, 0, 2)))
        self.assertEqual((same_place(naming=(1, 0, 2), table=FAN), is_same(naming=(0, 2, 1), table=FAN)), (1, False))


class Behind(ErrorCase):
    def test_all_namings(self):
        for size in range(5):
            for naming, other in itertools.product(namings(size), repeat=2):
                self.assertEqual(repr(behind(naming, other)), repr(plain_names.behind(naming, other)))
        rng = random.Random(205)
        for size in (5, 6, 7, 8):
            naming, other = (tuple(rng.sample(range(size), size)) for _ in range(2))
            self.assertEqual(behind(naming, other), tuple(other[x] for x in naming))
            table = plain.drawn_table(rng, size, range(100))
            self.assertEqual(renamed(renamed(table, naming), other), renamed(table, behind(naming, other)))

    def test_unlike_sizes(self):
        for naming, other in (((), (0,)), ((0,), ()), ((1, 0), (0, 1, 2)), (tuple(range(8)), tuple(range(7)))):
            self.check_error(Unfit(), behind, naming, other)

    def test_by_name(self):
        self.assertEqual(behind(other=(1, 0, 2), naming=(1, 2, 0)), (0, 2, 1))


class Normal(ErrorCase):
    def test_beside_all_namings(self):
        for table in small_tables_of_names() + [one for one in wide_tables_of_names(206) if one[0] == 6][::3]:
            self.assertEqual(repr(normal(table)), repr(min(renamed(table, naming) for naming in namings(table[0]))))

    def test_just_if_alike(self):
        rng = random.Random(207)
        tables = [table for table in small_tables_of_names() if table[0] == 4] + small_tables(4, (0, 1))[::211]
        for table in tables:
            for other in rng.sample(tables, 12):
                self.assertIs(normal(table) == normal(other), renaming(table, other) is not None)
            self.assertEqual(normal(shuffled(rng, table)[0]), normal(table))

    def test_too_many(self):
        for size in (7, 8):
            for table in (plain.by(size, lambda x, y: 0), plain.by(size, lambda x, y: int(x < y))):
                self.check_error(TooMany(6), normal, table)
        self.assertEqual(normal(plain.by(6, lambda x, y: int(x < y))), plain.by(6, lambda x, y: int(x > y)))

    def test_by_name(self):
        self.assertEqual(normal(table=(0, ())), (0, ()))
