"""tree_error at each of its errors, and all that raise NotTree ([C3], [C5], [C7])."""

import random
import unittest

import plain
from helper import replaced
from piecetrees.errors import NotTree
from piecetrees.knots import piece_at, pieces_of, place_of
from piecetrees.trees import piece_count, table_of, tree_error, tree_text

RING_ROWS = ((0, 1, 0), (0, 0, 1), (1, 0, 0))
PATH_ROWS = ((0, 1, 0, 0), (1, 0, 1, 0), (0, 1, 0, 1), (0, 0, 1, 0))


def spoilt(rng, value):
    """A nested value with one thing in it changed."""
    if isinstance(value, tuple) and value and rng.random() < 0.75:
        at = rng.randrange(len(value))
        return replaced(value, at, spoilt(rng, value[at]))
    if isinstance(value, tuple) and value and rng.random() < 0.7:
        at = rng.randrange(len(value))
        return rng.choice((
            value[:at] + value[at + 1:], value[:at] + value[at:at + 1] + value[at:], value[::-1],
            list(value), value[at], (value,), ("all", (3,), (value,)), value + (7,), ("all", (0,), value),
        ))
    if isinstance(value, str):
        return rng.choice(("all", "line", "firm", "all", "line", "firm", "rest", "", "All", None, 0))
    if type(value) is int:
        return rng.choice((0, 1, 2, 3, 7, 99, 100, -1, True, False, value == 1, None, "0", (), (value,), 10 ** 300))
    return rng.choice((None, 0, (), "all"))


class TreeError(unittest.TestCase):
    def check(self, size, value, error):
        self.assertEqual(repr(tree_error(size, value)), repr(error), (size, value))

    def test_form(self):
        deep = 0
        for _ in range(9):
            deep = ("all", (0,), (deep,))
        wrong = (
            None, True, False, -1, 2, 10 ** 399, "", "0", "all", (), (0,), (0, 1), (0, 1, 2), [], {}, {0: 1},
            ["all", (0,), (0, 1)], ("all", [0], (0, 1)), ("all", (0,), [0, 1]), ("all", (0,)), ("all", (0,), (0, 1), ()),
            ("all", (0,), ()), ("all", (0,), (0, True)), ("all", (0,), (False, 1)), ("all", (0,), (0, 2)),
            ("all", (0,), (0, -1)), ("all", 0, (0, 1)), ("all", (0,), 0), ("rest", (0,), (0, 1)), ("", (0,), (0, 1)),
            (b"all", (0,), (0, 1)), (None, (0,), (0, 1)), (("all",), (0,), (0, 1)), ("ALL", (0,), (0, 1)),
            ("all", (0,), (0, ("all", (1,), ()))), ("all", (0,), (0, ("line", [0, 1], (1,)))), ("all", (0,), (0, ())),
            ("all", (0,), (0, ("no", (1,), (1,)))), ("all", (0,), (0, None)), ("all", (0,), (0, "1")), ("all", "0", (0, 1)),
            ("all", {}, (0, 1)), ("all", {0: 0}, (0, 1)), ("all", (0,), {0: 0, 1: 1}), ("all", (0,), (deep, 2)),
        )
        for value in wrong:
            self.check(2, value, "form")
        for size in range(1, 9):
            self.check(size, size, "form")
            self.check(size, (), "form")
        for value in (0, None, False, "", [], {}, ((),), (0,), ("all", (0,), (0, 1)), ("all", (0,), ())):
            self.check(0, value, "form")
        self.check(0, (), None)
        self.check(1, 0, None)

    def test_things(self):
        for value in (0, 1, ("all", (0,), (0, 0)), ("all", (0,), (0, 1, 1)), ("all", (0,), (0, 1, 0)), ("line", (), (1, 1))):
            self.check(2, value, "things")
        self.check(3, ("all", (0,), (0, 1)), "things")
        self.check(3, ("all", (0,), (0, ("all", (1,), (1, 0)))), "things")
        self.check(2, ("all", (0,), tuple([0, 1] * 100)), "things")
        self.check(2, ("all", (), (("line", (), (0,)),)), "things")

    def test_few(self):
        self.check(1, ("all", (0,), (0,)), ("few", 0))
        self.check(1, ("line", (0, 1), (0,)), ("few", 0))
        self.check(1, ("firm", (), (0,)), ("few", 0))
        self.check(2, ("firm", ((0, 1), (0, 0)), (0, 1)), ("few", 0))
        self.check(2, ("all", (0,), (("all", (1,), (0, 1)),)), ("few", 0))
        self.check(2, ("all", (0,), (0, ("all", (1,), (1,)))), ("few", 1))
        self.check(3, ("all", (0,), (0, ("firm", ((0, 1), (0, 0)), (1, 2)))), ("few", 1))

    def test_order(self):
        self.check(2, ("all", (0,), (1, 0)), ("order", 0))
        self.check(3, ("firm", RING_ROWS, (0, 2, 1)), ("order", 0))
        self.check(3, ("line", (0, 1), (2, 0, 1)), None)
        self.check(3, ("all", (0,), (("line", (0, 1), (2, 0)), 1)), None)
        self.check(3, ("all", (0,), (1, ("line", (0, 1), (2, 0)))), ("order", 0))
        self.check(3, ("line", (0, 1), (1, ("all", (0,), (2, 0)))), ("order", 1))

    def test_looks(self):
        for looks in ((), (0, 0), (0, 1), (True,), (False,), (100,), (-1,), ("0",), (None,), ((0,),), ((),), (0, 1, 2), (10 ** 300,)):
            self.check(2, ("all", looks, (0, 1)), ("looks", 0))
        for looks in ((), (0,), (0, 0), (1, 0), (0, True), (False, 1), (0, 100), (-1, 0), (0, 1, 2), ("0", "1"), (0, (1,)), (None, 1)):
            self.check(2, ("line", looks, (0, 1)), ("looks", 0))
        line, flat = ((0, 1, 1), (0, 0, 1), (0, 0, 0)), ((0, 0, 0),) * 3
        spoilt_rows = (
            (), RING_ROWS[:2], RING_ROWS + ((0, 0, 0),), line, flat, PATH_ROWS, replaced(RING_ROWS, 1, (0, 0)),
            replaced(RING_ROWS, 1, [0, 0, 1]), replaced(RING_ROWS, 0, (1, 1, 0)), replaced(RING_ROWS, 0, (0, True, 0)),
            replaced(RING_ROWS, 0, (0, 100, 0)), replaced(RING_ROWS, 0, (False, 1, 0)), replaced(RING_ROWS, 2, None),
            (0, 1, 2), (1,), (0, 1), ("", "", ""), replaced(RING_ROWS, 0, (0, (1,), 0)),
        )
        for looks in spoilt_rows:
            self.check(3, ("firm", looks, (0, 1, 2)), ("looks", 0))
        self.check(4, ("firm", PATH_ROWS, (0, 1, 2, 3)), None)
        self.check(4, ("firm", PATH_ROWS, (0, 1, ("all", (0,), (2, 3)))), ("looks", 0))

    def test_same(self):
        self.check(3, ("all", (1,), (0, ("all", (1,), (1, 2)))), ("same", 0))
        self.check(3, ("all", (1,), (0, ("all", (0,), (1, 2)))), None)
        self.check(3, ("all", (1,), (0, ("all", (True,), (1, 2)))), ("looks", 1))
        self.check(3, ("all", (0,), (0, ("all", (False,), (1, 2)))), ("looks", 1))
        self.check(3, ("line", (0, 1), (0, ("line", (0, 1), (1, 2)))), ("same", 0))
        self.check(3, ("line", (0, 1), (("line", (0, 1), (1, 2)), 0)), ("same", 0))
        self.check(3, ("line", (0, 1), (0, ("line", (0, 2), (1, 2)))), None)
        self.check(3, ("line", (0, 1), (0, ("line", (False, True), (1, 2)))), ("looks", 1))
        self.check(3, ("line", (0, 1), (0, ("all", (0,), (1, 2)))), None)
        self.check(3, ("all", (0,), (0, ("line", (0, 1), (1, 2)))), None)
        # Also if the same son has a fault of its own, or is no first one.
        self.check(2, ("all", (1,), (0, ("all", (1,), (1,)))), ("same", 0))
        self.check(3, ("all", (1,), (0, ("all", (1,), (2, 1)))), ("same", 0))
        # Firm knots may stand in firm ones.
        self.check(5, ("firm", RING_ROWS, (("firm", RING_ROWS, (0, 2, 4)), 1, 3)), None)

    def test_first_of_several(self):
        self.check(2, ("all", (), (1, 1, None)), "form")
        self.check(2, ("all", (), (1, 1, 0)), "things")
        self.check(2, ("firm", (), (1, 0)), ("few", 0))
        self.check(2, ("all", (), (1, 0)), ("order", 0))
        self.check(3, ("all", (True,), (0, ("all", (True,), (1, 2)))), ("looks", 0))
        self.check(3, ("all", (1,), (("all", (1,), (2, 1)), 0)), ("order", 0))

    def test_counted_knot_by_knot(self):
        def nested(*faulty):
            looks = [(5,) if k in faulty else (k, k + 10) for k in range(5)]
            inner = ("line", looks[2], (2, ("line", looks[3], (4, 5))))
            return ("line", looks[0], (("line", looks[1], (0, inner)), 1, ("line", looks[4], (3, 6))))

        self.check(7, nested(), None)
        for k in range(5):
            for more in range(k, 5):
                self.check(7, nested(k, more), ("looks", k))

    def test_deep_values(self):
        deep = 0
        for _ in range(400):
            deep = ("all", (0,), (deep,))
        self.check(1, deep, ("few", 0))
        self.check(2, ("all", (1,), (deep, 1)), ("few", 1))
        self.check(2, ("line", (), (1, deep)), ("looks", 0))
        self.check(2, deep, "things")
        self.check(2, ("all", (deep,), (0, 1)), ("looks", 0))
        self.check(2, ("line", (0, deep), (0, 1)), ("looks", 0))
        self.check(3, ("firm", (deep, deep, deep), (0, 1, 2)), ("looks", 0))
        self.check(3, ("all", (1,), (0, ("all", (deep,), (1, 2)))), ("looks", 1))

    def test_beside_the_words_of_the_document(self):
        rng = random.Random(6)
        told = {}
        for _ in range(6000):
            size = rng.randint(1, 8)
            value = plain.drawn_tree(rng, list(range(size)), loose=rng.random() < 0.4)
            for _ in range(rng.randint(0, 3)):
                value = spoilt(rng, value)
            wanted = plain.tree_error(size, value)
            self.check(size, value, wanted)
            word = wanted[0] if isinstance(wanted, tuple) else wanted
            told[word] = told.get(word, 0) + 1
        self.assertTrue(all(told[word] > 20 for word in (None, "form", "things", "few", "order", "looks", "same")), told)

    def test_raised(self):
        rng = random.Random(7)
        for _ in range(1500):
            size = rng.randint(0, 8)
            value = plain.drawn_tree(rng, list(range(size))) if size else ()
            value = spoilt(rng, spoilt(rng, value))
            error = tree_error(size, value)
            asked = ((piece_at, (10 ** 9,)), (place_of, ((),)), (table_of, ()), (piece_count, ()), (tree_text, ()), (pieces_of, ()))
            for function, more in asked if error is not None else ():
                with self.assertRaises(NotTree) as caught:
                    function(size, value, *more)
                self.assertEqual(repr(caught.exception.error), repr(error))

    def test_by_name(self):
        self.assertIsNone(tree_error(value=("all", (0,), (0, 1)), size=2))
