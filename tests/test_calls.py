"""Each function of the interface: by the names of its arguments, in a moment, and changing nothing."""

import copy
import random
import time
import unittest

import plain
import plain_webs
from piecetrees.errors import PieceError
from piecetrees.trees import tree_text
from piecetrees.turnings import turning
from test_form import INTERFACE

MOMENT = 3


def wide_tables():
    """Tables of eight things: of few looks, of many, firm, and with pieces in pieces."""
    path = plain.by(8, lambda x, y: int(abs(x - y) == 1))
    half = plain.by(8, lambda x, y: int(min(x, y) < 4 <= abs(x - y)))
    flat = [plain.by(8, lambda x, y: 0), plain.by(8, lambda x, y: 1), plain.by(8, lambda x, y: int(x < y))]
    return [path, half, *flat, *plain.drawn_tables(20, 8), (0, ()), (1, ((0,),))]


def given_table(rng, table):
    """What may be passed under each name, for a table."""
    size = table[0]
    trees = [plain.drawn_tree(rng, list(range(size))) if size else (), plain.tree(table)]
    nested = [[trees[0]], ["all", [0], [0, 1]], {"all": trees[1]}, ("all", (0,), [0, 1]), tuple(trees)]
    every = tuple(range(size))
    return {
        "table": [table],
        "size": [size],
        "other": [table],
        "lot": [every, (), tuple(range(0, size, 2)), tuple(range(size // 2)), every[:4]],
        "lots": [tuple((x,) for x in every)],
        "thing": [max(size - 1, 0)],
        "place": [0, size, 10 ** 6],
        "naming": [tuple(rng.sample(every, size))],
        "paints": [{look: 99 - look for look in range(100)}],
        "tree": trees + nested,
        "value": [
            *trees, *nested, table, list(table), tree_text(size, trees[0]), tree_text(size, trees[1]), "()", None,
            (every,), [every], [list(every)], (every[:4], every[:6], every),
        ],
        "word": ["ring", "bent", "comb", "half"],
    }


def given_web(rng, web):
    """What may be passed under each name, for a web."""
    size = web[0]
    found = plain_webs.arrows(web)
    orders = [plain.drawn_order(rng, size), plain.by(size, lambda x, y: int(x < y and web[1][x][y] == 1))]
    orders += [turning(web) or orders[0]]
    rows = [tuple(rng.sample(range(size), size)) for _ in range(3)]
    return {
        **({"arrow": rng.sample(found, min(3, len(found)))} if found else {}),
        "web": [web],
        "size": [size],
        "order": orders,
        "row": rows,
        "place": [0, 1, 719, 10 ** 6],
        "value": [tuple(found), found, [list(orders[0])], *orders, tuple(rows[:2]), rows, None, (), [], {0: rows[0]}],
        "other": {"arrow": found[-3:], "order": orders[::-1], "row": rows[::-1]},
    }


def argument_sets(names, given_ones):
    """Some arguments for some names, as dicts."""
    choices = {name: given_ones[name] for name in names}
    if names == ["word", "size"]:
        choices["size"] = [7, 8]
    if isinstance(choices.get("other"), dict):
        choices["other"] = choices["other"][[name for name in names if name in choices["other"]][0]]
    many = max(len(told) for told in choices.values())
    sets = [{name: told[k % len(told)] for name, told in choices.items()} for k in range(many)]
    if "lot" in names and "other" in names:
        sets = [{**one, "other": tuple(x for x in range(one["table"][0]) if x not in one["lot"])} for one in sets]
    return sets


def answer(function, by_place=(), by_name=None):
    """What a call returns, or the error that it raises."""
    try:
        return repr(function(*by_place, **(by_name or {})))
    except PieceError as error:
        return type(error).__name__ + repr(vars(error))


class Calls(unittest.TestCase):
    def check(self, function, told):
        kept = copy.deepcopy(told)
        before = time.perf_counter()
        first = answer(function, by_name=dict(reversed(told.items())))
        self.assertLess(time.perf_counter() - before, MOMENT, function.__name__)
        self.assertEqual(first, answer(function, by_place=told.values()))
        self.assertEqual(repr(told), repr(kept))

    def check_all(self, table, given_ones):
        for told in INTERFACE.values():
            for name, names in told.items():
                if set(names) <= set(given_ones) and (name != "put_in" or table[0] > 0):
                    function = [getattr(module, name) for module in INTERFACE if name in INTERFACE[module]][0]
                    self.asked.append(name)
                    for given in argument_sets(names, given_ones):
                        with self.subTest(function=name, given=given):
                            self.check(function, given)

    def test_each_function(self):
        rng = random.Random(21)
        self.asked = []
        for table in wide_tables():
            self.check_all(table, given_table(rng, table))
        for web in plain_webs.wide_webs(22, 1)[-8:] + [plain.by(8, lambda x, y: 1), plain.by(2, lambda x, y: 1), (0, ())]:
            self.check_all(web, given_web(rng, web))
        self.assertEqual(sorted(set(self.asked)), sorted(name for told in INTERFACE.values() for name in told))
