"""looks_of, triangle, triangle_count, apart_look, built, built_holds, mend_count, mended_even (part J)."""

import itertools
import random

import plain
from helper import ErrorCase, odd_values, replaced, sample_tables
from piecetrees.errors import HasTriangle, NotEven, TooMany, Unfit
from piecetrees.triangles import (
    apart_look, built, built_holds, looks_of, mend_count, mended_even, triangle, triangle_count,
)

PALE = (4, ((0, 1, 2, 2), (1, 0, 2, 2), (2, 2, 0, 3), (2, 2, 3, 0)))
ODD = (4, ((0, 1, 2, 1), (1, 0, 3, 1), (2, 3, 0, 1), (1, 1, 1, 0)))
THING = (1, ((0,),))
FUNCTIONS = (looks_of, triangle, triangle_count, apart_look, built, mend_count, mended_even)


def even_tables(size, looks):
    """All even tables of a size with some looks."""
    pairs = list(itertools.combinations(range(size), 2))
    for told in itertools.product(looks, repeat=len(pairs)):
        told = dict(zip(pairs, told))
        yield plain.by(size, lambda x, y: told[min(x, y), max(x, y)])


def put_in(table, thing, other):
    """A table with another one in the place of a thing."""
    named = [(x, k) for x in range(table[0]) for k in range(other[0] if x == thing else 1)]
    return plain.by(len(named), lambda at, to: look(table, other, named[at], named[to]))


def look(table, other, one, two):
    return other[1][one[1]][two[1]] if one[0] == two[0] else table[1][one[0]][two[0]]


def made_by(row):
    """The table that comes by putting in, one pair behind the other."""
    table = THING
    for thing, inner in row:
        table = put_in(table, thing, inner)
    return table


def renamed(table, naming):
    return plain.by(table[0], lambda x, y: table[1][naming.index(x)][naming.index(y)])


def made_tables(seed, many):
    """Tables that are made of tables of two looks at most, in drawn ways."""
    rng = random.Random(seed)
    found = []
    for size in range(1, 9):
        for _ in range(many):
            table = THING
            while table[0] < size:
                more = rng.randint(2, min(5, size - table[0] + 1))
                inner = plain.drawn_even(rng, more, rng.sample((0, 1, 2, 50, 99), rng.choice((1, 2))))
                table = put_in(table, rng.randrange(table[0]), inner)
            found.append(renamed(table, rng.sample(range(size), size)))
    return found


def many_even():
    rng = random.Random(220)
    found = [table for size in range(4) for table in even_tables(size, (0, 1, 7))] + list(even_tables(4, (0, 1, 2)))[::9]
    found += [plain.drawn_even(rng, size, looks) for size in range(9) for looks in ((0, 1), (3, 5, 9), range(100), (1, 1, 1, 2, 3))]
    return found + made_tables(221, 8) + [table for table in sample_tables() if not first_uneven(table)]


def first_uneven(table):
    pairs = [(x, y) for x, y in itertools.combinations(range(table[0]), 2) if table[1][x][y] != table[1][y][x]]
    return pairs[0] if pairs else None


def triangles(table):
    rows = table[1]
    return [(x, y, z) for x, y, z in itertools.combinations(range(table[0]), 3) if len({rows[x][y], rows[x][z], rows[y][z]}) == 3]


def holds_all(table, one):
    """Whether things are led to one another by a look: joined lots, till all are one."""
    lots = [{x} for x in range(table[0])]
    for x, y in itertools.combinations(range(table[0]), 2):
        if table[1][x][y] == one:
            met = [lot for lot in lots if x in lot or y in lot]
            lots = [lot for lot in lots if lot not in met] + [set().union(*met)]
    return len(lots) == 1


def is_int(value, low, high):
    return type(value) is int and low <= value < high


def is_even_table(value):
    if type(value) is not tuple or len(value) != 2 or not is_int(value[0], 0, 9) or type(value[1]) is not tuple:
        return False
    size, rows = value
    if len(rows) != size or any(type(row) is not tuple or len(row) != size for row in rows):
        return False
    if any(not is_int(one, 0, 100) for row in rows for one in row) or any(rows[x][x] != 0 for x in range(size)):
        return False
    return first_uneven(value) is None


def wanted_holds(table, value):
    """What built_holds has to tell, straight from the words of the document."""
    if type(value) is not tuple or len(value) != 2 or type(value[0]) is not tuple or type(value[1]) is not tuple:
        return False
    naming, row = value
    if any(type(x) is not int for x in naming) or sorted(naming) != list(range(table[0])):
        return False
    made = THING
    for step in row:
        if type(step) is not tuple or len(step) != 2 or not is_int(step[0], 0, made[0]) or not is_even_table(step[1]):
            return False
        inner = step[1]
        if inner[0] < 1 or len({inner[1][x][y] for x, y in itertools.permutations(range(inner[0]), 2)}) > 2:
            return False
        made = put_in(made, step[0], inner)
        if made[0] > 20:
            return False
    return made[0] == table[0] and renamed(made, naming) == table


class Looks(ErrorCase):
    def test_beside_plain_checks(self):
        for table in many_even():
            looks = sorted({table[1][x][y] for x, y in itertools.permutations(range(table[0]), 2)})
            found = triangles(table)
            self.assertEqual(repr(looks_of(table)), repr(tuple(looks)))
            self.assertEqual(repr(triangle(table)), repr(found[0] if found else None))
            self.assertEqual(triangle_count(table), len(found))
            apart = [one for one in looks if not holds_all(table, one)]
            self.assertEqual(apart_look(table), apart[0] if apart else None)

    def test_edges(self):
        for size in (0, 1):
            table = plain.by(size, None)
            self.assertEqual([told(table) for told in (looks_of, triangle, triangle_count, apart_look)], [(), None, 0, None])
        rainbow = plain.by(8, lambda x, y: 8 * min(x, y) + max(x, y))
        self.assertEqual((triangle_count(rainbow), triangle(rainbow), apart_look(rainbow)), (56, (0, 1, 2), 1))
        self.assertEqual([apart_look(plain.by(size, lambda x, y: 9)) for size in range(2, 9)], [None] * 7)

    def test_by_name(self):
        self.assertEqual((looks_of(table=PALE), triangle(table=ODD), triangle_count(table=ODD), apart_look(table=PALE)), ((1, 2, 3), (0, 1, 2), 1, 1))


class NotAnEvenTable(ErrorCase):
    def test_first_pair(self):
        rng = random.Random(222)
        tables = [table for seed in range(223, 226) for size in range(2, 9) for table in plain.drawn_tables(seed, size)]
        tables += [(2, ((0, 1), (0, 0))), plain.by(8, lambda x, y: int((x, y) == (7, 6)))]
        for table in tables:
            pair = first_uneven(table)
            if pair is not None:
                for function in FUNCTIONS:
                    self.check_error(NotEven(pair), function, table)
                for value in rng.sample(odd_values(), 10) + [(tuple(range(table[0])), ((0, table),)), ((0, 1), ())]:
                    self.check_error(NotEven(pair), built_holds, table, value)

    def test_ahead_of_all_else(self):
        # Of more things than can be mended, and with a triangle.
        table = plain.by(5, lambda x, y: x + y if max(x, y) < 3 else x)
        for function in FUNCTIONS:
            self.check_error(NotEven((0, 3)), function, table)


class Built(ErrorCase):
    def check(self, table):
        told = built(table)
        self.assertIs(wanted_holds(table, told), True, (table, told))
        self.assertIs(built_holds(table, told), True)
        self.assertEqual(renamed(made_by(told[1]), told[0]), table)

    def test_any(self):
        told = {}
        for table in many_even():
            found = triangles(table)
            told[bool(found)] = True
            if found:
                self.check_error(HasTriangle(found[0]), built, table)
            elif table[0] == 0:
                self.check_error(Unfit(), built, table)
            else:
                self.check(table)
        self.assertEqual(len(told), 2)

    def test_made_tables(self):
        for table in made_tables(226, 30):
            self.assertIsNone(triangle(table))
            self.check(table)

    def test_edges(self):
        self.assertEqual(built(THING), ((0,), ()))
        self.check_error(Unfit(), built, (0, ()))
        for value in odd_values() + [((), ()), ((0,), ())]:
            self.assertIs(built_holds((0, ()), value), False)
        self.check(plain.by(8, lambda x, y: int(abs(x - y) == 1)))

    def test_by_name(self):
        self.assertIs(built_holds(value=built(table=PALE), table=PALE), True)


class BuiltHolds(ErrorCase):
    def check(self, table, value):
        wanted = wanted_holds(table, value)
        self.assertIs(built_holds(table, value), wanted, (table, value))
        return wanted

    def test_a_fault_at_any_place(self):
        rng = random.Random(227)
        held = 0
        for table in made_tables(228, 4) + [PALE]:
            naming, row = built(table)
            for k in range(len(row)):
                thing, inner = row[k]
                for bad in (row[:k] + row[k + 1:], row[:k] + row[k:k + 1] * 2 + row[k + 1:], row[:k] + row[k:][::-1], list(row)):
                    held += self.check(table, (naming, bad))
                for step in (
                    (thing + 1, inner), (thing - 1, inner), (True, inner), (False, inner), (None, inner), (9, inner), [thing, inner], (thing,), (thing, inner, 0),
                    inner, (thing, list(inner)), (thing, (inner[0], list(inner[1]))), (thing, (inner[0] + 1, inner[1])), (thing, None), (thing, (0, ())),
                    (thing, THING), (thing, plain.by(inner[0], lambda x, y: int(x < y))), (thing, plain.by(inner[0], lambda x, y: x + y)),
                    (thing, plain.by(inner[0], lambda x, y: 100)), (thing, plain.by(inner[0], lambda x, y: inner[1][y][x])),
                    (thing, plain.by(inner[0], lambda x, y: inner[1][x][y] + 1)), (thing, plain.by(8, lambda x, y: 1)),
                    (thing, (inner[0], ((True,) + inner[1][0][1:],) + inner[1][1:])),
                ):
                    held += self.check(table, (naming, replaced(row, k, step)))
                held += self.check(table, (naming, row[:k] + ((0, THING),) + row[k:]))
            for other in (naming[::-1], tuple(rng.sample(naming, len(naming))), list(naming), naming[1:], naming + (0,), (True,) + naming[1:], naming + naming):
                held += self.check(table, (other, row))
            for value in ((naming, row, ()), (naming,), (row, naming), [naming, row], (naming, row + ((0, THING),) * 5), (naming, None), (None, row)):
                held += self.check(table, value)
        self.assertGreater(held, 20)

    def test_values_of_every_kind(self):
        for table in (PALE, ODD, THING, (0, ()), (2, ((0, 4), (4, 0)))):
            every = tuple(range(table[0]))
            for value in odd_values():
                for made in (value, (every, value), (value, ()), (every, (value,)), (every, ((0, value),)), (every, ((value, table),))):
                    self.check(table, made)

    def test_other_ways(self):
        # Tables of one thing change nothing, and a table of two looks may be put in as it is, or bit by bit.
        two = plain.by(5, lambda x, y: int(x // 2 == y // 2))
        self.assertIs(self.check(two, ((0, 1, 2, 3, 4), ((0, two),))), True)
        self.assertIs(self.check(two, ((0, 1, 2, 3, 4), ((0, THING), (0, two), (4, THING)))), True)
        self.assertIs(self.check(two, built(two)), True)
        self.assertIs(self.check(ODD, ((0, 1, 2, 3), ((0, ODD),))), False)
        self.assertIs(self.check(THING, ((0,), ((0, THING),) * 700)), True)
        self.assertIs(self.check(two, ((4, 3, 2, 1, 0), ((0, two),))), False)
        self.assertIs(self.check(two, ((2, 3, 0, 1, 4), ((0, two),))), True)
        big = plain.by(8, lambda x, y: 1)
        self.assertIs(self.check(big, (tuple(range(8)), ((0, big), (0, big)))), False)
        self.assertIs(self.check(big, (tuple(range(8)), ((0, big),))), True)


class Mended(ErrorCase):
    def check(self, table):
        """Beside all even tables with no other looks."""
        looks = sorted({table[1][x][y] for x, y in itertools.permutations(range(table[0]), 2)})
        pairs = list(itertools.combinations(range(table[0]), 2))
        found = []
        for other in even_tables(table[0], looks):
            if not triangles(other):
                found.append((sum(other[1][x][y] != table[1][x][y] for x, y in pairs), other))
        self.assertEqual(mend_count(table), min(found)[0])
        self.assertEqual(repr(mended_even(table)), repr(min(found)[1]))

    def test_all_tables_of_up_to_three_things(self):
        for size in range(4):
            for table in even_tables(size, (0, 1, 5, 99)):
                self.check(table)

    def test_tables_of_four_things(self):
        rng = random.Random(229)
        for table in even_tables(4, (0, 1, 2)):
            self.check(table)
        for looks in ((4, 5, 6, 7), (1, 2, 3, 4, 5), range(6)):
            for _ in range(4):
                self.check(plain.drawn_even(rng, 4, looks))

    def test_all_looks_unlike(self):
        self.check(plain.by(4, lambda x, y: 7 * min(x, y) + max(x, y)))
        self.check(plain.by(4, lambda x, y: 90 - 7 * min(x, y) - max(x, y)))

    def test_too_many(self):
        for size in (5, 6, 7, 8):
            for table in (plain.by(size, lambda x, y: 0), plain.by(size, lambda x, y: 8 * min(x, y) + max(x, y))):
                self.check_error(TooMany(4), mend_count, table)
                self.check_error(TooMany(4), mended_even, table)

    def test_by_name(self):
        self.assertEqual((mend_count(table=ODD), mended_even(table=PALE)), (1, PALE))
