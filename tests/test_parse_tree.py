"""parse_tree, and tree_text there and back ([C7])."""

import random
import re
import unittest

import plain
from piecetrees.errors import NotTree, PieceError
from piecetrees.trees import parse_tree, tree_text

SIGNS = " ():/-0123459alinefrm\n\t+_,."


def number(word, most):
    """The number of a word of figures, without noughts ahead."""
    return int(word) if re.fullmatch("0|[1-9][0-9]?", word) and int(word) <= most else None


def knot(word, looks, sons):
    """The knot of a word, of the text of its looks and of its sons; None if it is none."""
    if word == "firm":
        rows = [row.split(" ") for row in looks.split("/")]
        if len(rows) != len(sons) or any(len(row) != len(sons) for row in rows):
            return None
        if any((rows[x][y] == "-") != (x == y) for x in range(len(rows)) for y in range(len(rows))):
            return None
        told = tuple(tuple(0 if look == "-" else number(look, 99) for look in row) for row in rows)
        return None if any(None in row for row in told) else (word, told, sons)
    told = tuple(number(look, 99) for look in looks.split(" "))
    return (word, told, sons) if None not in told and len(told) == {"all": 1, "line": 2}[word] else None


def value_at(size, text, at):
    """The nested value whose text begins at a place, and where it ends; (None, at) if there is none."""
    thing = re.compile("[0-9]+").match(text, at)
    if thing:
        return number(thing.group(), size - 1), thing.end()
    head = re.compile("\\((all|line|firm) ([-0-9 /]*):").match(text, at)
    if not head:
        return None, at
    at, sons = head.end(), []
    while text[at:at + 1] == " ":
        son, at = value_at(size, text, at + 1)
        if son is None:
            return None, at
        sons.append(son)
    if text[at:at + 1] != ")" or not sons:
        return None, at
    return knot(head.group(1), head.group(2), tuple(sons)), at + 1


def wanted(size, text):
    """The tree or the error of a text, straight from the words of the document."""
    if size == 0:
        return ((), None) if text == "()" else (None, "form")
    value, end = value_at(size, text, 0)
    if value is None or end != len(text):
        return None, "form"
    error = plain.tree_error(size, value)
    return (value if error is None else None), error


class ParseTree(unittest.TestCase):
    def check(self, size, text, tree, error):
        if error is None:
            self.assertEqual(repr(parse_tree(size, text)), repr(tree), text)
            self.assertEqual(tree_text(size, tree), text)
            return
        with self.assertRaises(PieceError) as caught:
            parse_tree(size, text)
        self.assertIs(type(caught.exception), NotTree)
        self.assertEqual(repr(caught.exception.error), repr(error), text)

    def drawn_texts(self, seed, many):
        rng = random.Random(seed)
        for size in range(1, 9):
            for _ in range(many):
                yield rng, size, tree_text(size, plain.drawn_tree(rng, list(range(size))))

    def test_there_and_back(self):
        self.check(0, "()", (), None)
        for _, size, text in self.drawn_texts(8, 50):
            tree, error = wanted(size, text)
            self.assertIsNone(error)
            self.check(size, text, tree, None)

    def test_one_sign_spoilt(self):
        kinds = {}
        for rng, size, text in self.drawn_texts(9, 12):
            for at in range(len(text) + 1):
                sign = rng.choice(SIGNS)
                for bad in (text[:at] + text[at + 1:], text[:at] + sign + text[at:], text[:at] + sign + text[at + 1:]):
                    tree, error = wanted(size, bad)
                    self.check(size, bad, tree, error)
                    kinds[repr(error)[:8]] = True
        self.assertGreaterEqual(len(kinds), 5, kinds)

    def test_of_another_size(self):
        for rng, size, text in self.drawn_texts(10, 6):
            for other in range(9):
                self.check(other, text, *wanted(other, text))

    def test_no_text_so_built(self):
        good = "(all 1: (all 0: 0 1) 2)"
        around = ("", " ", "(", ")", "()", "\n", "0", good[1:], good[:-1], good + ")", "(" + good, good + " ", " " + good)
        inside = (
            good + "\n", good + good, good.replace(":", ""), good.replace(": ", ":"), good.replace(" ", "  ", 1),
            good.replace("all 1", "all  1"), good.replace("all 1", "all 01"), good.replace("all 1", "all 100"),
            good.replace("all 1", "all -"), good.replace("all 1", "all +1"), good.replace("all 1", "all"),
            good.replace("all 1", "all "), good.replace("all 1", "all 1 1"), good.replace("all 1", "line 1"),
            good.replace("all 1", "1"), good.replace("all 1", "ALL 1"), good.replace("all 1", "al 1"),
            good.replace("all 1", "all\n1"), good.replace("2", "3"), good.replace("2", "02"), good.replace("2", "-"),
            good.replace("2", "()"), good.replace(" 2", ""), good.replace("0 1", ""), good.replace(" 0 1", ""),
            good.replace("0 1", "0,1"), good.replace("0 1", "0  1"), good.replace(" 2)", " 2 )"), good.replace("(", "["),
            good.replace("1", "\u0661"), good.replace("1", "\u00b9"), "(all 1: )", "(all 1:)", "(all 1: 0 1 2", "(all: 0 1 2)",
            "(all 1/1: 0 1 2)", "(line 0/1: 0 1 2)", "(line 0: 0 1 2)", "(line 0 1 2: 0 1 2)", "(all 1: 0 1 2) 0", "0 1 2",
            "(all " + "9" * 2000 + ": 0 1 2)", "(all 1: 0 1 " + "2" * 2000 + ")", "(rest 1: 0 1 2)", "( 1: 0 1 2)",
        )
        for text in around + inside:
            self.check(3, text, *wanted(3, text))
        for text in inside:
            self.check(3, text, None, "things" if text == good.replace(" 2", "") else "form")
        for text in ("", " ", "( )", "()\n", " ()", "0", "(all 0: 0)", "(())"):
            self.check(0, text, None, "form")
        self.check(1, "()", None, "form")

    def test_rows_of_a_firm_knot(self):
        good = "(firm - 1 0/0 - 1/1 0 -: 0 1 2)"
        for rows in (
            "", "-", "- 1 0/0 - 1", "- 1 0/0 - 1/1 0 -/0 0 0", "- 1 0/0 - 1/1 0", "- 1 0/0 - 1/1 0 - 0", "- 1 0/0 - 1/1 0 0",
            "0 1 0/0 - 1/1 0 -", "- - 0/0 - 1/1 0 -", "- 1 0 0 - 1/1 0 -", "- 1 0/0 - 1/1 0 -/", "/- 1 0/0 - 1/1 0 -",
            "- 1 0//0 - 1/1 0 -", "- 1 0 /0 - 1/1 0 -", "- 1 0/ 0 - 1/1 0 -", "- 1 00/0 - 1/1 0 -", "- 1 100/0 - 1/1 0 -",
            "-  1 0/0 - 1/1 0 -", "- 1 x/0 - 1/1 0 -", "1",
        ):
            self.check(3, "(firm " + rows + ": 0 1 2)", None, "form")
        self.check(3, good, ("firm", ((0, 1, 0), (0, 0, 1), (1, 0, 0)), (0, 1, 2)), None)
        self.check(4, good, None, "things")
        self.check(3, "(firm - 1 1/0 - 1/0 0 -: 0 1 2)", None, ("looks", 0))
        self.check(1, "(firm -: 0)", None, ("few", 0))
        self.check(2, "(firm - 1/1 -: 0 1)", None, ("few", 0))
        self.check(3, "(firm - 1 0/0 - 1/1 0 -: 0 2 1)", None, ("order", 0))

    def test_texts_of_no_trees(self):
        self.check(2, "(all 0: 0 0)", None, "things")
        self.check(2, "(all 0: 0 1 0)", None, "things")
        self.check(1, "(all 0: 0)", None, ("few", 0))
        self.check(2, "(all 0: 1 0)", None, ("order", 0))
        self.check(2, "(line 1 1: 0 1)", None, ("looks", 0))
        self.check(3, "(line 3 4: 0 (line 3 4: 2 1))", None, ("same", 0))
        self.check(3, "(line 3 4: 0 (line 4 3: 2 1))", None, ("looks", 1))
        self.check(2, "(all 0: " + " ".join(["0 1"] * 700) + ")", None, "things")

    def test_very_deep_texts(self):
        for many in (100, 330, 3000):
            self.check(1, "(all 0: " * many + "0" + ")" * many, None, ("few", 0))
            self.check(2, "(all 0: " * many + "0" + ")" * many, None, "things")
            self.check(2, "(all 1: " + "(all 0: " * many + "0" + ")" * many + " 1)", None, ("few", 1))
            self.check(2, "(line 1 0: " + "(all 0: " * many + "0" + ")" * many + " 1)", None, ("looks", 0))
            self.check(1, "(all 0: " * many + "0" + ")" * (many - 1), None, "form")
            self.check(1, "(all 0: " * many + "0" + ")" * (many + 1), None, "form")
            self.check(1, "(all 0: " * many + "1" + ")" * many, None, "form")
            self.check(1, "(" * many, None, "form")
            self.check(1, "0" + ")" * many, None, "form")

    def test_no_strings(self):
        for value in (None, True, 0, 1, (), [], {}, ("all", (0,), (0, 1)), ["0"], ("0",), {"0": "0"}, b"0", 10 ** 399):
            for size in range(9):
                self.check(size, value, None, "form")

    def test_by_name(self):
        self.assertEqual(parse_tree(value="(all 0: 0 1)", size=2), ("all", (0,), (0, 1)))
