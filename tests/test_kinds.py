"""is_even, is_web, is_order, is_course ([A5], [A6])."""

import itertools
import unittest

from helper import FAN, LINE, RING, sample_tables, small_tables, table_by, with_look
from piecetrees.looks import is_course, is_even, is_order, is_web


def kinds(table):
    """The words of what a table is; each answer has to be a bool."""
    asked = {"even": is_even, "web": is_web, "order": is_order, "course": is_course}
    told = {word: ask(table) for word, ask in asked.items()}
    assert all(type(answer) is bool for answer in told.values()), told
    return [word for word, answer in told.items() if answer]


def wanted_kinds(table):
    """The same, straight from the words of the document."""
    size, rows = table
    pairs = list(itertools.permutations(range(size), 2))
    plain = all(rows[x][y] in (0, 1) for x, y in pairs)
    even = all(rows[x][y] == rows[y][x] for x, y in pairs)
    no_two = not any(rows[x][y] == 1 and rows[y][x] == 1 for x, y in pairs)
    leads_on = all(
        rows[x][z] == 1
        for x, y, z in itertools.product(range(size), repeat=3)
        if x != y and y != z and rows[x][y] == 1 and rows[y][z] == 1
    )
    one_way = all((rows[x][y] == 1) + (rows[y][x] == 1) == 1 for x, y in pairs)
    told = {"even": even, "web": even and plain, "order": plain and no_two and leads_on, "course": plain and one_way}
    return [word for word, answer in told.items() if answer]


class Kinds(unittest.TestCase):
    def test_against_the_words_of_the_document(self):
        tables = sample_tables() + small_tables(2, (0, 1, 2, 99)) + small_tables(3, (0, 1, 2)) + small_tables(4, (0, 1))
        for table in tables:
            self.assertEqual(kinds(table), wanted_kinds(table), table)

    def test_of_several_kinds(self):
        for table in ((0, ()), (1, ((0,),))):
            self.assertEqual(kinds(table), ["even", "web", "order", "course"])
        for size in range(2, 9):
            self.assertEqual(kinds(table_by(size, lambda x, y: 0)), ["even", "web", "order"])
            self.assertEqual(kinds(table_by(size, lambda x, y: 1)), ["even", "web"])
            self.assertEqual(kinds(table_by(size, lambda x, y: 2)), ["even"])
            self.assertEqual(kinds(table_by(size, lambda x, y: int(x < y))), ["order", "course"])
            self.assertEqual(kinds(table_by(size, lambda x, y: int(x > y))), ["order", "course"])
        self.assertEqual(kinds(RING), ["course"])
        self.assertEqual(kinds(FAN), ["even", "web"])

    def test_one_look_missing(self):
        for size in range(2, 9):
            web = table_by(size, lambda x, y: (x + y) % 2)
            line = table_by(size, lambda x, y: int(x < y))
            for x, y in itertools.permutations(range(size), 2):
                self.assertEqual(kinds(with_look(web, x, y, 2)), [])
                self.assertFalse(is_even(with_look(web, x, y, 1 - web[1][x][y])))
                self.assertEqual(kinds(with_look(line, x, y, 2)), [])
                self.assertFalse(is_course(with_look(line, x, y, 1 - line[1][x][y])))
                both = with_look(with_look(web, x, y, 2), y, x, 2)
                self.assertEqual(kinds(both), ["even"])

    def test_order_has_to_lead_on(self):
        # Without its longest arrow a line leads no more; without a shortest one it does.
        for size in range(3, 9):
            line = table_by(size, lambda x, y: int(x < y))
            self.assertFalse(is_order(with_look(line, 0, size - 1, 0)))
            self.assertTrue(is_order(with_look(line, 0, 1, 0)))
            self.assertFalse(is_order(with_look(line, size - 1, 0, 1)))
        self.assertFalse(is_order((2, ((0, 1), (1, 0)))))
        self.assertEqual(kinds((2, ((0, 2), (0, 0)))), [])

    def test_by_name(self):
        self.assertEqual((is_even(table=FAN), is_web(table=FAN)), (True, True))
        self.assertEqual((is_order(table=LINE), is_course(table=RING)), (True, True))
