"""table_error ([A3] to [A6])."""

import copy
import unittest

from helper import FAN, replaced, sample_tables, small_tables, table_by, with_look
from piecetrees.looks import table_error

NO_LOOKS = (-1, 100, True, False, "1", "", (), (1,), [1], None, {}, 10 ** 400, -10 ** 400)


class TableError(unittest.TestCase):
    def check(self, value, wanted):
        kept = copy.deepcopy(value)
        told = table_error(value)
        self.assertEqual((type(told), told), (type(wanted), wanted), value)
        if isinstance(told, tuple):
            self.assertEqual([type(item) for item in told], [int, int])
        self.assertEqual(value, kept)

    def test_tables(self):
        for table in sample_tables() + small_tables(2, (0, 1, 98, 99)) + small_tables(3, (0, 7)):
            self.check(table, None)

    def test_by_name(self):
        self.assertIsNone(table_error(value=FAN))
        self.assertEqual(table_error(value=7), "size")

    def test_no_pair(self):
        for value in (None, True, 0, 3, "", "3", (), [], {}, (3,), (3, FAN[1], 0), list(FAN), {3: FAN[1]}, FAN[1], (FAN,)):
            self.check(value, "size")

    def test_no_size(self):
        for size in (-1, 9, 10 ** 400, True, False, None, "3", "", (3,), [3], ()):
            for rows in ((), FAN[1], ((0,),), None):
                self.check((size, rows), "size")

    def test_rows(self):
        for size, rows in sample_tables():
            if size < 8:
                self.check((size + 1, rows), "rows")
            if size > 0:
                self.check((size - 1, rows), "rows")
                self.check((size, rows[:-1]), "rows")
            self.check((size, rows + ((0,) * size,)), "rows")
            self.check((size, list(rows)), "rows")
        for rows in (None, True, 0, "", "abc", {}, {0: (0, 0, 0)}, []):
            self.check((3, rows), "rows")
            self.check((0, rows), "rows")

    def test_one_row(self):
        for size, rows in sample_tables():
            for x in range(size):
                row = rows[x]
                for bad in (row[:-1], row + (0,), (), list(row), None, 0, True, "0" * size, {}, (row,) + row):
                    if bad != row:
                        self.check((size, replaced(rows, x, bad)), x)

    def test_one_look(self):
        for table in sample_tables():
            for x in range(table[0]):
                for y in range(table[0]):
                    for bad in NO_LOOKS:
                        self.check(with_look(table, x, y, bad), (x, y))

    def test_look_on_itself(self):
        for table in sample_tables():
            for x in range(table[0]):
                for bad in (1, 2, 99):
                    self.check(with_look(table, x, x, bad), (x, x))

    def test_first_of_several(self):
        self.check((9, ((0, 1), 3)), "size")
        self.check((True, None), "size")
        self.check((2, [(0, 100), 7]), "rows")
        self.check((3, ((0, 100, 0), (0,))), "rows")
        self.check((3, ((0, 0), (0,), [])), 0)
        self.check((3, ((0, 0, 0), (0,), [])), 1)
        # A later row without the form is told ahead of an earlier look that is none.
        self.check((3, ((1, 100, -1), (0, 0, 0), (0, 0))), 2)
        self.check((3, ((0, 0, 0), (0, 0, 100), (100, 0, 0))), (1, 2))
        self.check((3, ((0, 0, 100), (100, 0, 0), (0, 0, 0))), (0, 2))
        self.check((3, ((0, True, 100), (0, 0, 0), (0, 0, 1))), (0, 1))
        self.check((3, ((1, True, 100), (0, 0, 0), (0, 0, 0))), (0, 0))

    def test_every_pair_of_faulty_looks(self):
        table = table_by(4, lambda x, y: 3)
        places = [(x, y) for x in range(4) for y in range(4)]
        for first in places:
            for second in places:
                both = with_look(with_look(table, *first, 100), *second, "0")
                self.check(both, min(first, second))
