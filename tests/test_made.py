"""part, turned, renamed, painted, put_in ([A7])."""

import itertools
import unittest

from helper import FAN, LINE, sample_tables, small_tables, table_by
from piecetrees.errors import PieceError, TooMany
from piecetrees.looks import painted, part, put_in, renamed, table_error, turned


def lots(size):
    """All lots of a size."""
    return [lot for many in range(size + 1) for lot in itertools.combinations(range(size), many)]


def wanted_put_in(table, thing, other):
    """The table that put_in makes, read off the things one by one."""
    named = [(x, 0) for x in range(thing)] + [(thing, k) for k in range(other[0])]
    named = named + [(x, 0) for x in range(thing + 1, table[0])]

    def look(at, to):
        (x, k), (y, m) = named[at], named[to]
        return other[1][k][m] if x == y == thing else table[1][x][y]

    return table_by(len(named), look)


class Part(unittest.TestCase):
    def test_each_lot(self):
        for table in sample_tables():
            for lot in lots(table[0]):
                wanted = table_by(len(lot), lambda k, m: table[1][lot[k]][lot[m]])
                self.assertEqual(part(table, lot), wanted)

    def test_edges(self):
        for table in sample_tables():
            self.assertEqual(part(table, ()), (0, ()))
            self.assertEqual(part(table, tuple(range(table[0]))), table)
            for x in range(table[0]):
                self.assertEqual(part(table, (x,)), (1, ((0,),)))

    def test_by_name(self):
        self.assertEqual(part(lot=(1, 2), table=LINE), (2, ((0, 1), (0, 0))))


class Turned(unittest.TestCase):
    def test_each_look(self):
        for table in sample_tables() + small_tables(3, (0, 1, 2)):
            wanted = table_by(table[0], lambda x, y: table[1][y][x])
            self.assertEqual(turned(table), wanted)
            self.assertEqual(turned(turned(table)), table)

    def test_by_name(self):
        self.assertEqual(turned(table=(0, ())), (0, ()))


class Renamed(unittest.TestCase):
    def check(self, table, naming):
        size, rows = renamed(table, naming)
        self.assertIsNone(table_error((size, rows)))
        self.assertEqual(size, table[0])
        for x, y in itertools.product(range(size), repeat=2):
            self.assertEqual(rows[naming[x]][naming[y]], table[1][x][y])

    def test_each_naming(self):
        for table in sample_tables():
            if table[0] <= 5:
                for naming in itertools.permutations(range(table[0])):
                    self.check(table, naming)
            else:
                for step in (1, 3, 5):
                    naming = tuple(range(table[0]))[step:] + tuple(range(table[0]))[:step]
                    self.check(table, naming)
                    self.check(table, naming[:2][::-1] + naming[2:])
            self.assertEqual(renamed(table, tuple(range(table[0]))), table)

    def test_by_name(self):
        self.assertEqual(renamed(naming=(2, 0, 1), table=LINE), (3, ((0, 1, 0), (0, 0, 0), (1, 1, 0))))


class Painted(unittest.TestCase):
    def test_each_look(self):
        paints = {look: (look * 7 + 5) % 100 for look in range(100)}
        kept = dict(paints)
        for table in sample_tables():
            wanted = table_by(table[0], lambda x, y: paints[table[1][x][y]])
            self.assertEqual(painted(table, paints), wanted)
            self.assertEqual(paints, kept)

    def test_just_the_looks_that_are_there(self):
        # No thing has the look 0 on another one: so 0 need not have a paint.
        self.assertEqual(painted((2, ((0, 3), (4, 0))), {3: 4, 4: 3}), (2, ((0, 4), (3, 0))))
        for table in ((0, ()), (1, ((0,),))):
            self.assertEqual(painted(table, {}), table)
            self.assertEqual(painted(table, {0: 9}), table)

    def test_by_name(self):
        self.assertEqual(painted(paints={0: 1, 1: 1}, table=LINE), table_by(3, lambda x, y: 1))


class PutIn(unittest.TestCase):
    def test_each_place(self):
        for table in sample_tables():
            for other in sample_tables():
                if table[0] - 1 + other[0] <= 8:
                    for thing in range(table[0]):
                        made = put_in(table, thing, other)
                        self.assertEqual(made, wanted_put_in(table, thing, other))
                        self.assertIsNone(table_error(made))

    def test_no_things(self):
        for table in sample_tables():
            for thing in range(table[0]):
                others = tuple(x for x in range(table[0]) if x != thing)
                self.assertEqual(put_in(table, thing, (0, ())), part(table, others))

    def test_one_thing(self):
        for table in sample_tables():
            for thing in range(table[0]):
                self.assertEqual(put_in(table, thing, (1, ((0,),))), table)
            self.assertEqual(put_in((1, ((0,),)), 0, table), table)

    def test_too_many(self):
        for size in range(1, 9):
            for many in range(9):
                table, other = table_by(size, lambda x, y: 1), table_by(many, lambda x, y: 2)
                if size - 1 + many <= 8:
                    self.assertEqual(put_in(table, size - 1, other)[0], size - 1 + many)
                    continue
                with self.assertRaises(PieceError) as caught:
                    put_in(table, 0, other)
                self.assertIs(type(caught.exception), TooMany)
                self.assertEqual(caught.exception.limit, 8)

    def test_by_name(self):
        made = put_in(other=(2, ((0, 0), (0, 0))), thing=0, table=(2, ((0, 1), (1, 0))))
        self.assertEqual(made, FAN)
