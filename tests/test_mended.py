"""pair_classes, mend_cost, mended, mended_holds ([K6], [K7])."""

import itertools
import random

import plain
from helper import FAN, LINE, RING, ErrorCase, odd_values, replaced, sample_tables, small_tables, with_look
from piecetrees.together import mend_cost, mended, mended_holds, pair_classes


def bundles(size, lots, even):
    """All bundles, by a plain joining of any two glances that are bound."""
    glances = list(itertools.permutations(range(size), 2))

    def bound(one, two):
        (x, y), (z, w) = one, two
        if even and (x, y) == (w, z):
            return True
        from_one = x == z and any(y in lot and w in lot and x not in lot for lot in lots)
        return from_one or (y == w and any(x in lot and z in lot and y not in lot for lot in lots))

    found = {glance: {glance} for glance in glances}
    for one, two in itertools.combinations(glances, 2):
        if found[one] is not found[two] and bound(one, two):
            joined = found[one] | found[two]
            for glance in joined:
                found[glance] = joined
    return tuple(sorted({tuple(sorted(one)) for one in found.values()}))


def drawn_lots(rng, size, many):
    """Lots of a size: any ones, within one another, twice, of all things."""
    lots = [tuple(sorted(rng.sample(range(size), rng.randint(0, size)))) for _ in range(many)]
    if lots and rng.random() < 0.4:
        lots[-1] = lots[0]
    if lots and rng.random() < 0.4:
        lots[0] = tuple(range(size))
    if len(lots) > 1 and rng.random() < 0.4:
        lots[1] = lots[-1][1:]
    return tuple(lots)


def is_right(table, lots, even):
    """Whether all the lots are pieces, and the table is even if that is asked."""
    pairs = itertools.permutations(range(table[0]), 2)
    return all(plain.is_piece(table, lot) for lot in lots) and not (even and any(table[1][x][y] != table[1][y][x] for x, y in pairs))


def changed(table, other):
    return sum(table[1][x][y] != other[1][x][y] for x, y in itertools.permutations(range(table[0]), 2))


def questions(seed, many):
    """Tables of all sizes, lots, and whether to be even."""
    rng = random.Random(seed)
    for size in range(9):
        tables = plain.drawn_tables(seed, size)
        for k in range(many):
            yield rng.choice(tables), drawn_lots(rng, size, k % 13), bool(rng.randrange(2))


class PairClasses(ErrorCase):
    def test_beside_a_plain_joining(self):
        for table, lots, even in questions(240, 39):
            self.assertEqual(repr(pair_classes(table[0], lots, even)), repr(bundles(table[0], lots, even)))

    def test_all_single_lots(self):
        for size in range(5):
            for lot, other in itertools.product(plain.lots(size), repeat=2):
                for even in (False, True):
                    self.assertEqual(pair_classes(size, (lot, other), even), bundles(size, (lot, other), even))

    def test_just_if_the_looks_are_the_same(self):
        rng = random.Random(241)
        for size in (2, 3, 4):
            for _ in range(60):
                lots, even = drawn_lots(rng, size, rng.randint(0, 3)), bool(rng.randrange(2))
                table = plain.drawn_table(rng, size, (0, 1))
                same = all(len({table[1][x][y] for x, y in bundle}) == 1 for bundle in pair_classes(size, lots, even))
                self.assertIs(is_right(table, lots, even), same)

    def test_edges(self):
        for size in (0, 1):
            for lots in ((), ((),), ((),) * 12):
                self.assertEqual(pair_classes(size, lots, True), ())
        self.assertEqual(pair_classes(2, (), False), (((0, 1),), ((1, 0),)))
        self.assertEqual(pair_classes(2, ((0, 1), (0,), ()), True), (((0, 1), (1, 0)),))
        self.assertEqual(len(pair_classes(8, (), False)), 56)
        self.assertEqual(len(pair_classes(8, tuple((x, x + 1) for x in range(7)), True)), 1)

    def test_by_name(self):
        self.assertEqual(pair_classes(even=False, lots=((0, 1),), size=2), (((0, 1),), ((1, 0),)))


class MendCost(ErrorCase):
    def check(self, table, lots, even, found):
        wanted = min(changed(table, other) for other in found)
        self.assertEqual(mend_cost(table, lots, even), wanted)
        self.check_mended(table, lots, even)

    def check_mended(self, table, lots, even):
        told = mended(table, lots, even)
        self.assertEqual(told[0], table[0])
        self.assertIs(is_right(told, lots, even), True)
        self.assertEqual(changed(table, told), mend_cost(table, lots, even))
        self.assertIs(mended_holds(table, lots, even, told), True)

    def test_beside_all_tables(self):
        rng = random.Random(242)
        for size, looks in ((0, (0,)), (1, (0,)), (2, (0, 1, 2)), (3, (0, 1))):
            tables = small_tables(size, looks)
            lots_to_try = [()] + [(lot,) for lot in plain.lots(size)] + [drawn_lots(rng, size, many) for many in (2, 2, 3)]
            for lots, even in itertools.product(lots_to_try, (False, True)):
                found = [other for other in tables if is_right(other, lots, even)]
                for table in tables:
                    self.check(table, lots, even, found)

    def test_three_things_of_more_looks(self):
        rng = random.Random(243)
        tables = small_tables(3, (0, 1, 2))
        for lots, even in itertools.product((((0, 1),), ((1, 2), (0, 2)), ((0, 2),), ()), (False, True)):
            found = [other for other in tables if is_right(other, lots, even)]
            for table in rng.sample(tables, 60):
                self.check(table, lots, even, found)

    def test_wide_tables(self):
        for table, lots, even in questions(244, 26):
            told = [[table[1][x][y] for x, y in bundle] for bundle in bundles(table[0], lots, even)]
            self.assertEqual(mend_cost(table, lots, even), sum(len(looks) - max(map(looks.count, looks)) for looks in told))
            self.check_mended(table, lots, even)

    def test_nothing_to_mend(self):
        for table in sample_tables():
            pieces = tuple(plain.pieces(table)[-12:]) if table[0] < 7 else ((), (0,), tuple(range(table[0])))
            self.assertEqual(mend_cost(table, pieces, False), 0)
            self.assertEqual(mended(table, pieces, False), table)

    def test_by_name(self):
        self.assertEqual(mend_cost(even=True, lots=((1, 2),), table=FAN), 2)
        self.assertEqual(mended(even=True, lots=((0, 1),), table=FAN), FAN)


class MendedHolds(ErrorCase):
    def check(self, table, lots, even, value):
        wanted = is_table(value) and value[0] == table[0] and is_right(value, lots, even) and changed(table, value) == mend_cost(table, lots, even)
        self.assertIs(mended_holds(table, lots, even, value), wanted, (table, lots, even, value))
        return wanted

    def test_all_tables_of_three_things(self):
        held = 0
        tables = small_tables(3, (0, 1))
        for table in (FAN, LINE, RING):
            for lots, even in itertools.product((((0, 2),), ((1, 2),), (), ((0, 1), (1, 2))), (False, True)):
                for value in tables:
                    held += self.check(table, lots, even, value)
        self.assertGreater(held, 24)

    def test_one_look_spoilt(self):
        rng = random.Random(245)
        for table, lots, even in questions(246, 8):
            told = mended(table, lots, even)
            size = table[0]
            for x, y in list(itertools.permutations(range(size), 2))[::5]:
                for look in (0, 1, 99, 100, -1, True, None, rng.randrange(100)):
                    self.check(table, lots, even, with_look(told, x, y, look))
                    self.check(table, lots, even, with_look(with_look(told, x, y, look), y, x, look))
            for x in range(size):
                self.check(table, lots, even, with_look(told, x, x, 1))
            for value in (list(told), (size, list(told[1])), (size + 1, told[1]), told + (0,), told[1], table, replaced(told, 1, told[1] + ((),))):
                self.check(table, lots, even, value)

    def test_values_of_every_kind(self):
        for table in (FAN, LINE, RING, (0, ()), (1, ((0,),))):
            for value in odd_values():
                for even in (False, True):
                    self.check(table, (), even, value)
                    self.check(table, (tuple(range(table[0])),), even, value)

    def test_by_name(self):
        self.assertIs(mended_holds(value=LINE, even=False, lots=(), table=LINE), True)


def is_table(value):
    if type(value) is not tuple or len(value) != 2 or type(value[0]) is not int or not 0 <= value[0] <= 8:
        return False
    size, rows = value
    if type(rows) is not tuple or len(rows) != size or any(type(row) is not tuple or len(row) != size for row in rows):
        return False
    looks = all(type(look) is int and 0 <= look <= 99 for row in rows for look in row)
    return looks and all(rows[x][x] == 0 for x in range(size))
