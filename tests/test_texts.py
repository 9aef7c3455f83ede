"""table_text and parse_table ([A8])."""

import unittest

from helper import FAN, sample_tables, small_tables
from piecetrees.errors import BadText, PieceError
from piecetrees.texts import parse_table, table_text

GOOD = "3\n- 12 0\n7 - 99\n0 1 -"


class TableText(unittest.TestCase):
    def test_form(self):
        self.assertEqual(table_text((0, ())), "0")
        self.assertEqual(table_text((1, ((0,),))), "1\n-")
        self.assertEqual(table_text((2, ((0, 99), (0, 0)))), "2\n- 99\n0 -")
        self.assertEqual(table_text((3, ((0, 12, 0), (7, 0, 99), (0, 1, 0)))), GOOD)

    def test_there_and_back(self):
        for table in sample_tables() + small_tables(2, range(100)) + small_tables(3, (0, 9, 10)):
            text = table_text(table)
            self.assertEqual(parse_table(text), table)
            self.assertEqual(table_text(parse_table(text)), text)

    def test_by_name(self):
        self.assertEqual(parse_table(value=table_text(table=FAN)), FAN)


class ParseTable(unittest.TestCase):
    def check(self, value, line):
        with self.assertRaises(PieceError) as caught:
            parse_table(value)
        self.assertIs(type(caught.exception), BadText)
        self.assertEqual((type(caught.exception.line), caught.exception.line), (int, line), repr(value))

    def test_no_strings(self):
        for value in (None, True, False, 0, 3, (), [], {}, FAN, [GOOD], (GOOD,), {GOOD: GOOD}, 10 ** 400, b"0"):
            self.check(value, 0)

    def test_size(self):
        for size in ("", " ", "-", "9", "10", "03", "+3", "-3", "3 ", " 3", "3 3", "3.0", "x", "3_0", "-0", "00", "9" * 5000):
            self.check(size, 0)
            self.check(size + GOOD[1:], 0)
        self.check("\n" + GOOD, 0)
        self.check("\n", 0)
        self.check("\u0663" + GOOD[1:], 0)
        self.check("\u00b2\n- 1\n1 -", 0)

    def test_one_line_spoilt(self):
        for table in sample_tables():
            lines = table_text(table).split("\n")
            for at in range(1, len(lines)):
                for bad in self.spoilt_lines(lines[at].split(" "), at - 1):
                    self.check("\n".join(lines[:at] + [bad] + lines[at + 1:]), at)

    def spoilt_lines(self, words, thing):
        """Lines that are no row of a thing, out of the words of its row."""
        line = " ".join(words)
        yield from ("", " ", " " + line, line + " ", line + " -", line + " 0", "0 " + line, line + "\t", line + "\r")
        yield line.replace("-", "0")
        if len(words) > 1:
            yield from (" ".join(words[1:]), " ".join(words[:-1]), line.replace(" ", "  ", 1), line.replace(" ", "", 1))
            yield from (line.replace(" ", "\t", 1), line.replace("- ", "-,") if thing == 0 else line.replace(" -", ",-"))
        for at, word in enumerate(words):
            bad = ["--", "-0", "", "0-"] if at == thing else []
            bad = bad + ["-", "100", "0" + word, "+" + word, "-" + word, "-1", "x", "1_0", "1.0", "\u0663", "\u00b2", "9" * 5000]
            for other in bad:
                if other != word:
                    yield " ".join(words[:at] + [other] + words[at + 1:])

    def test_a_line_more(self):
        for table in sample_tables():
            text, size = table_text(table), table[0]
            for more in ("", " ", "-", "0", text.split("\n")[-1], "\n", "x\ny"):
                self.check(text + "\n" + more, size + 1)
        self.check(GOOD + "\n", 4)

    def test_lines_missing(self):
        for table in sample_tables():
            lines = table_text(table).split("\n")
            for many in range(1, len(lines)):
                self.check("\n".join(lines[:many]), many)

    def test_an_empty_line(self):
        for table in sample_tables():
            lines = table_text(table).split("\n")
            for at in range(len(lines) + 1):
                self.check("\n".join(lines[:at] + [""] + lines[at:]), at)

    def test_another_size(self):
        # A row has too many or too few looks, or a line is missing or too many.
        self.check("2\n- 12 0\n7 - 99\n0 1 -", 1)
        self.check("4\n- 12 0\n7 - 99\n0 1 -", 1)
        self.check("0\n-", 1)
        self.check("1\n- 1\n1 -", 1)
        self.check("2\n-", 1)
        self.check("0\n", 1)
        self.check("1", 1)
        self.check("1\n-\n-", 2)

    def test_first_of_several(self):
        self.check("3\n- 12 0\n7 - 100\n01 1 -", 2)
        self.check("3\n- 12 0\n7 - 100", 2)
        self.check("3\n- 12 0\n7 - 99\n0 1\n\n", 3)
        self.check("9\n- 100\n\n", 0)
