"""stand, next_firm, grown, grown_holds, spared, leavable, leavable_pair ([D3] to [D5])."""

import itertools
import random
import unittest

import plain
from helper import FAN, LINE, RING, replaced, sample_tables
from piecetrees.errors import NotFirm, PieceError, Unfit
from piecetrees.firm import course_of, half_web
from piecetrees.growing import grown, grown_holds, leavable, leavable_pair, next_firm, spared, stand

PATH = plain.by(4, lambda x, y: int(abs(x - y) == 1))
LONG = plain.by(5, lambda x, y: int(abs(x - y) == 1))


def long_path(size):
    return plain.by(size, lambda x, y: int(abs(x - y) == 1))


def firm_tables(seed, many):
    """Firm tables of 3 to 8 things, critical ones among them."""
    rng = random.Random(seed)
    drawn = [plain.drawn_firm(rng, size) for size in range(3, 9) for _ in range(many)]
    known = [half_web(4), half_web(6), half_web(8), course_of("comb", 5), course_of("bent", 7), RING]
    return drawn + known + [long_path(size) for size in range(4, 9)]


def other_tables(seed):
    """Tables that are not firm."""
    drawn = [table for size in range(9) for table in plain.drawn_tables(seed, size)]
    return [table for table in drawn + sample_tables()[::5] if not plain.is_firm(table)]


def is_firm_lot(table, lot):
    return plain.is_firm(plain.part(table, lot))


def joined(lot, more):
    return tuple(sorted((*lot, *more)))


def without(table, lot):
    return tuple(x for x in range(table[0]) if x not in lot)


def wanted_holds(table, lot, value):
    """What grown_holds has to tell, straight from the words of the document."""
    if type(value) is not tuple or not value:
        return False
    every = [repr(one) for one in plain.lots(table[0])]
    if any(repr(one) not in every for one in value) or not plain.is_firm(table):
        return False
    if value[0] != lot or value[-1] != tuple(range(table[0])) or not all(is_firm_lot(table, one) for one in value):
        return False
    return all(set(a) < set(b) and len(b) - len(a) <= 2 for a, b in zip(value, value[1:]))


class GrowingCase(unittest.TestCase):
    def check_error(self, kind, told, function, *given):
        with self.assertRaises(PieceError) as caught:
            function(*given)
        self.assertIs(type(caught.exception), kind)
        self.assertEqual(vars(caught.exception), told)


class Stand(GrowingCase):
    def wanted(self, table, lot, thing):
        wide = joined(lot, (thing,))
        inside = plain.part(table, wide)
        told = [("firm", None)] if plain.is_firm(inside) else []
        if plain.is_piece(inside, tuple(wide.index(x) for x in lot)):
            told.append(("alike", None))
        for x in lot:
            if plain.is_piece(inside, tuple(sorted((wide.index(x), wide.index(thing))))):
                told.append(("like", x))
        self.assertEqual(len(told), 1, (table, lot, thing))
        return told[0]

    def test_beside_a_plain_check(self):
        words = {}
        tables = firm_tables(30, 2) + other_tables(31)[::3]
        rng = random.Random(32)
        for table in tables:
            every = plain.lots(table[0])
            lots = every if table[0] < 6 else rng.sample(every, 60)
            for lot in lots:
                if is_firm_lot(table, lot):
                    for thing in without(table, lot):
                        told = stand(table, lot, thing)
                        self.assertEqual(repr(told), repr(self.wanted(table, lot, thing)))
                        words[told[0]] = True
                    for thing in lot:
                        self.check_error(Unfit, {}, stand, table, lot, thing)
                else:
                    # NotFirm also ahead of Unfit.
                    for thing in range(table[0]):
                        self.check_error(NotFirm, {"lot": lot}, stand, table, lot, thing)
        self.assertEqual(len(words), 3)

    def test_by_name(self):
        self.assertEqual(stand(thing=4, lot=(0, 1, 2, 3), table=LONG), ("firm", None))


class NextFirm(GrowingCase):
    def wanted(self, table, lot):
        for many in (1, 2):
            for more in itertools.combinations(without(table, lot), many):
                if is_firm_lot(table, joined(lot, more)):
                    return more
        return None

    def test_beside_a_plain_check(self):
        rng = random.Random(33)
        for table in firm_tables(34, 2) + other_tables(35)[::3]:
            every = plain.lots(table[0])
            for lot in every if table[0] < 6 else rng.sample(every, 40):
                if is_firm_lot(table, lot):
                    told = next_firm(table, lot)
                    self.assertEqual(repr(told), repr(self.wanted(table, lot)))
                    if plain.is_firm(table):
                        self.assertEqual(told is None, len(lot) == table[0])
                else:
                    self.check_error(NotFirm, {"lot": lot}, next_firm, table, lot)

    def test_by_two(self):
        self.assertEqual(next_firm(half_web(6), (0, 1, 3, 4)), (2, 5))
        self.assertEqual(next_firm(course_of("comb", 5), (0, 1, 4)), self.wanted(course_of("comb", 5), (0, 1, 4)))

    def test_none_in_a_table_that_is_not_firm(self):
        beside = plain.by(5, lambda x, y: PATH[1][x][y] if max(x, y) < 4 else 0)
        self.assertIsNone(next_firm(beside, (0, 1, 2, 3)))
        self.assertIsNone(next_firm(PATH, (0, 1, 2, 3)))

    def test_by_name(self):
        self.assertEqual(next_firm(lot=(0, 1, 2, 3), table=LONG), (4,))


class Grown(GrowingCase):
    def test_from_each_firm_lot(self):
        rng = random.Random(36)
        for table in firm_tables(37, 2):
            found = [lot for lot in plain.lots(table[0]) if is_firm_lot(table, lot)]
            for lot in found if len(found) < 30 else rng.sample(found, 30):
                told = grown(table, lot)
                self.assertIs(type(told), tuple)
                self.assertIs(wanted_holds(table, lot, told), True)
                self.assertIs(grown_holds(table, lot, told), True)

    def test_not_firm(self):
        for table in other_tables(38):
            every = tuple(range(table[0]))
            for lot in ((), every, every[:4], *[lot for lot in plain.lots(table[0]) if is_firm_lot(table, lot)][:3]):
                self.check_error(NotFirm, {"lot": every}, grown, table, lot)
        for table in firm_tables(39, 1):
            for lot in [lot for lot in plain.lots(table[0]) if not is_firm_lot(table, lot)][::5]:
                self.check_error(NotFirm, {"lot": lot}, grown, table, lot)

    def test_by_name(self):
        self.assertEqual(grown(lot=(1, 2, 3, 4), table=LONG), ((1, 2, 3, 4), (0, 1, 2, 3, 4)))


class GrownHolds(GrowingCase):
    def check(self, table, lot, value):
        self.assertIs(grown_holds(table, lot, value), wanted_holds(table, lot, value), (table, lot, value))

    def test_values_of_every_kind(self):
        every = (0, 1, 2, 3, 4)
        values = (
            None, True, False, 0, "", "grown", (), [], {}, ((),), (None,), ((0, 1, 2, 3),), every, (every,), [every], list(every),
            ((1, 2, 3, 4), every), [(1, 2, 3, 4), every], ([1, 2, 3, 4], every), ((1, 2, 3, 4), list(every)),
            ((True, 2, 3, 4), every), ((1, 2, 3, 4), (False, 1, 2, 3, 4)), ((1, 2, 3, 4), (0, True, 2, 3, 4)),
            ((4, 3, 2, 1), every), ((1, 1, 2, 3, 4), every), ((1, 2, 3, 5), every), ((1, 2, 3, -1), every), ("1234", every),
            ((1, 2, 3, 4), every, every), ((1, 2, 3, 4), (1, 2, 3, 4), every), (every, (1, 2, 3, 4)), ((1, 2, 3, 4), every, ()),
            ((1, 2, 3, 4), every, None), ((0, 1, 2, 3), every), ((2, 3), every), ((1, 2, 3, 4), (0, 1, 2, 3, 4, 5)), {0: every},
            tuple([(1, 2, 3, 4)] * 1000 + [every]), ((1, 2, 3, 4), (0, 1, 2, 3), every),
        )
        for value in values:
            self.check(LONG, (1, 2, 3, 4), value)
        self.assertEqual([grown_holds(LONG, (1, 2, 3, 4), value) for value in values].count(True), 1)

    def test_one_lot_missing_changed_or_put_in(self):
        rng = random.Random(40)
        held = 0
        for table in firm_tables(41, 2):
            every = plain.lots(table[0])
            for lot in [lot for lot in every if is_firm_lot(table, lot)][:3]:
                told = grown(table, lot)
                for at in range(len(told) + 1):
                    near = [one for one in every if is_firm_lot(table, one)]
                    for other in rng.sample(near, min(3, len(near))) + [rng.choice(every)]:
                        values = [told[:at] + (other,) + told[at:], told[:at] + told[at + 1:]]
                        if at < len(told):
                            values.append(replaced(told, at, other))
                        for value in values:
                            self.check(table, lot, value)
                            held += grown_holds(table, lot, value)
        self.assertGreater(held, 0)

    def test_all_ways_in_a_firm_table(self):
        # Steps of one thing, of two, and of three, over all lots between.
        long = long_path(7)
        lots = [(2, 3, 4, 5), (1, 2, 3, 4, 5), (1, 2, 3, 4, 5, 6), tuple(range(7))]
        for many in range(5):
            for value in itertools.combinations(lots, many):
                self.check(long, lots[0], value)
        self.assertIs(grown_holds(long, lots[0], (lots[0], lots[3])), False)
        self.assertIs(grown_holds(long, lots[0], (lots[0], lots[2], lots[3])), True)

    def test_a_lot_between_that_is_not_firm(self):
        long = long_path(6)
        self.check(long, (0, 1, 2, 3), ((0, 1, 2, 3), (0, 1, 2, 3, 5), (0, 1, 2, 3, 4, 5)))
        self.check(long, (0, 1, 2, 3), ((0, 1, 2, 3), (0, 1, 2, 3, 4, 5)))

    def test_never_if_not_firm(self):
        for table in other_tables(42):
            every = tuple(range(table[0]))
            for lot in plain.lots(table[0])[::7]:
                for value in ((), (lot,), (every,), (lot, every)):
                    self.assertIs(grown_holds(table, lot, value), False)
        self.assertIs(grown_holds(LONG, (0, 1, 2), ((0, 1, 2), (0, 1, 2, 3, 4))), False)

    def test_of_the_lot_itself(self):
        for table in firm_tables(43, 1):
            every = tuple(range(table[0]))
            self.assertIs(grown_holds(table, every, (every,)), True)
            self.assertIs(grown_holds(table, every, (every, every)), False)

    def test_by_name(self):
        self.assertIs(grown_holds(value=((0, 1, 2),), lot=(0, 1, 2), table=RING), True)


class Leaving(GrowingCase):
    def test_beside_a_plain_check(self):
        for table in firm_tables(44, 4):
            fits = lambda lot: plain.is_firm(plain.part(table, without(table, lot)))
            ones = [lot for lot in itertools.combinations(range(table[0]), 1) if fits(lot)]
            twos = [lot for lot in itertools.combinations(range(table[0]), 2) if fits(lot)]
            self.assertEqual(repr(spared(table)), repr(tuple(lot[0] for lot in ones)))
            self.assertEqual(repr(leavable(table)), repr((*ones, *twos, None)[0]))
            self.assertEqual(repr(leavable_pair(table)), repr((*twos, None)[0]))
            if table[0] >= 5:
                self.assertIsNotNone(leavable(table))
            if table[0] >= 7:
                self.assertIsNotNone(leavable_pair(table))

    def test_known_ones(self):
        self.assertEqual((spared(half_web(8)), leavable(half_web(8)), leavable_pair(half_web(8))), ((), (0, 4), (0, 4)))
        self.assertEqual((spared(RING), leavable(RING), leavable_pair(RING)), ((), None, None))

    def test_not_firm(self):
        for table in other_tables(45):
            for function in (spared, leavable, leavable_pair):
                self.check_error(NotFirm, {"lot": tuple(range(table[0]))}, function, table)

    def test_by_name(self):
        self.assertEqual((spared(table=LONG), leavable(table=LONG), leavable_pair(table=LONG)), ((0, 4), (0,), None))
        self.check_error(NotFirm, {"lot": (0, 1, 2)}, leavable, FAN)
        self.check_error(NotFirm, {"lot": (0, 1, 2)}, spared, LINE)
