"""Each function of the interface: by the names of its arguments, in a moment, and changing nothing."""

import copy
import random
import time
import unittest

import plain
from piecetrees.errors import PieceError
from piecetrees.trees import tree_text
from test_form import INTERFACE

MOMENT = 3


def wide_tables():
    """Tables of eight things: of few looks, of many, firm, and with pieces in pieces."""
    path = plain.by(8, lambda x, y: int(abs(x - y) == 1))
    half = plain.by(8, lambda x, y: int(min(x, y) < 4 <= abs(x - y)))
    flat = [plain.by(8, lambda x, y: 0), plain.by(8, lambda x, y: 1), plain.by(8, lambda x, y: int(x < y))]
    return [path, half, *flat, *plain.drawn_tables(20, 8), (0, ()), (1, ((0,),))]


def given(rng, table):
    """What may be passed under each name, for a table."""
    size = table[0]
    trees = [plain.drawn_tree(rng, list(range(size))) if size else (), plain.tree(table)]
    nested = [[trees[0]], ["all", [0], [0, 1]], {"all": trees[1]}, ("all", (0,), [0, 1]), tuple(trees)]
    return {
        "table": [table],
        "size": [size],
        "other": [table],
        "lot": [(), tuple(range(size)), tuple(range(0, size, 2)), tuple(range(size // 2))],
        "lots": [tuple((x,) for x in range(size))],
        "thing": [max(size - 1, 0)],
        "place": [0, size, 10 ** 6],
        "naming": [tuple(rng.sample(range(size), size))],
        "paints": [{look: 99 - look for look in range(100)}],
        "tree": trees + nested,
        "value": [*trees, *nested, table, list(table), tree_text(size, trees[0]), tree_text(size, trees[1]), "()", None],
        "word": ["ring", "bent", "comb", "half"],
    }


def argument_sets(names, table, given_ones):
    """Some arguments for some names, as dicts."""
    choices = {name: given_ones[name] for name in names}
    if names == ["word", "size"]:
        choices["size"] = [7, 8]
    many = max(len(told) for told in choices.values())
    sets = [{name: told[k % len(told)] for name, told in choices.items()} for k in range(many)]
    if "lot" in names and "other" in names:
        sets = [{**one, "other": tuple(x for x in range(table[0]) if x not in one["lot"])} for one in sets]
    return sets


def answer(function, by_place=(), by_name=None):
    """What a call returns, or the error that it raises."""
    try:
        return repr(function(*by_place, **(by_name or {})))
    except PieceError as error:
        return type(error).__name__ + repr(vars(error))


class Calls(unittest.TestCase):
    def check(self, function, told):
        kept = copy.deepcopy(told)
        before = time.perf_counter()
        first = answer(function, by_name=dict(reversed(told.items())))
        self.assertLess(time.perf_counter() - before, MOMENT, function.__name__)
        self.assertEqual(first, answer(function, by_place=told.values()))
        self.assertEqual(repr(told), repr(kept))

    def test_each_function(self):
        rng = random.Random(21)
        asked = [(getattr(module, name), names) for module, told in INTERFACE.items() for name, names in told.items()]
        for table in wide_tables():
            given_ones = given(rng, table)
            for function, names in asked:
                if function.__name__ != "put_in" or table[0] > 0:
                    for told in argument_sets(names, table, given_ones):
                        with self.subTest(function=function.__name__, given=told):
                            self.check(function, told)
