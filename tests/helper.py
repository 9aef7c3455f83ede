"""What several tests share: sample tables, and the document's examples run."""

import unittest

import piecetrees.boards as boards
import piecetrees.errors as errors

FAN = (3, ((0, 0, 1), (0, 0, 1), (1, 1, 0)))
LINE = (3, ((0, 1, 1), (0, 0, 1), (0, 0, 0)))
RING = (3, ((0, 1, 0), (0, 0, 1), (1, 0, 0)))

# How the document sets the names that its later parts use.
FAN_LINE_RING = r"""
    >>> fan, line, ring = (3, ((0, 0, 1), (0, 0, 1), (1, 1, 0))), (3, ((0, 1, 1), (0, 0, 1), (0, 0, 0))), (3, ((0, 1, 0), (0, 0, 1), (1, 0, 0)))
"""


def table_by(size, look):
    """The table in which x looks look(x, y) on each other y."""
    return (size, tuple(tuple(0 if x == y else look(x, y) for y in range(size)) for x in range(size)))


def sample_tables():
    """Tables of each size from 0 to 8, with looks from 0 to 99."""
    looks = (
        lambda x, y: 0,
        lambda x, y: 99,
        lambda x, y: int(x < y),
        lambda x, y: (x + y) % 2,
        lambda x, y: (37 * x + 11 * y) % 100,
        lambda x, y: (x * y + 7 * x) % 10,
    )
    return [table_by(size, look) for size in range(9) for look in looks]


def small_tables(size, looks):
    """All tables of a size whose looks are among some."""
    pairs = [(x, y) for x in range(size) for y in range(size) if x != y]
    found = [{}]
    for pair in pairs:
        found = [{**one, pair: look} for one in found for look in looks]
    return [table_by(size, lambda x, y: one[(x, y)]) for one in found]


def replaced(items, at, item):
    """A tuple with one item put in the place of another one."""
    return items[:at] + (item,) + items[at + 1:]


def with_look(table, x, y, look):
    """A table with one look put in the place of another one."""
    size, rows = table
    return (size, replaced(rows, x, replaced(rows[x], y, look)))


def odd_values():
    """Values of every kind, what the package returned among them."""
    # Boards may be passed, too, and have an equality, a length and pieces of their own.
    board = boards.Board(FAN)
    deep = ()
    for _ in range(18):
        deep = (deep, [deep][:0])
    return [
        None, True, False, 0, 1, 2, -1, 10 ** 399, -10 ** 399, "", " ", "()", "0", "0 1\n2", "all", "x" * 3000, (), [], {}, (0,), [0],
        (None,), ((),), ([],), ({},), ("",), (True,), (-1,), (8,), (0, 1), (1, 0), (0, 0), (0, True), (False, 1), (0, 1, 2), [0, 1, 2],
        ((0,), (1,), (2,)), ((0, 1), (2,)), ((2,), (0, 1)), [(2,), (0, 1)], ([2], (0, 1)), ((0,), (0, 1), (1, 2)), (((0,),),),
        ((), (0, 1, 2)), ((0, 1, 2),), ((True, 1), (2,)), FAN, list(FAN), (FAN,), FAN[1], {3: FAN[1]}, {0: (1,), "a": [None]},
        {(0, 1): 2}, (0,) * 3000, tuple([()] * 61), tuple((x % 3,) for x in range(1000)), deep, board, (board,), [board], (board, board),
        ((0, board), (1,)), "3\n- 0 1\n0 - 1\n1 1 -", ("all", (1,), (0, 1, 2)), (1, 1, (0, 1, 2)), (1, 1, ((0, 0, (0, 1)), 2)),
    ]


class ErrorCase(unittest.TestCase):
    """Asks for the very error that a call is to raise."""

    def check_error(self, wanted, function, *given):
        with self.assertRaises(errors.PieceError) as caught:
            function(*given)
        self.assertIs(type(caught.exception), type(wanted))
        self.assertEqual(repr(vars(caught.exception)), repr(vars(wanted)))


class ExampleCase(unittest.TestCase):
    """Runs examples as the document prints them.

    Behind ">>> " stands an import, an assignment, or an expression; the line
    behind it, if there is one, is the repr of the answer, or "raises" and the
    error as it would be made.
    """

    def check_examples(self, text):
        names = {name: getattr(errors, name) for name in dir(errors) if name[0] != "_"}
        asked = [block.strip().split("\n") for block in text.split(">>> ") if block.strip()]
        for code, *told in asked:
            with self.subTest(code=code):
                self.check_example(code.strip(), "\n".join(told).strip(), names)

    def check_example(self, code, told, names):
        if not told:
            exec(code, names)
        elif told.startswith("raises "):
            wanted = eval(told.removeprefix("raises "), names)
            with self.assertRaises(type(wanted)) as caught:
                eval(code, names)
            self.assertEqual(vars(caught.exception), vars(wanted))
        else:
            self.assertEqual(repr(eval(code, names)), told)
