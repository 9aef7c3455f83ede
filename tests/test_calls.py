"""Each function of the interface: by the names of its arguments, in a moment, and changing nothing."""

import copy
import random
import time
import unittest

import plain
import plain_formulas
import plain_webs
from helper import FAN, LINE, RING, odd_values
from piecetrees.boards import Board, KeptBoard
from piecetrees.errors import PieceError
from piecetrees.shells import Shell
from piecetrees.trees import tree_text
from piecetrees.turnings import turning
from test_form import CLASSES, INTERFACE

MOMENT = 3


def wide_tables():
    """Tables of eight things: of few looks, of many, firm, and with pieces in pieces."""
    path = plain.by(8, lambda x, y: int(abs(x - y) == 1))
    half = plain.by(8, lambda x, y: int(min(x, y) < 4 <= abs(x - y)))
    flat = [plain.by(8, lambda x, y: 0), plain.by(8, lambda x, y: 1), plain.by(8, lambda x, y: int(x < y))]
    return [path, half, *flat, *plain.drawn_tables(20, 8), (0, ()), (1, ((0,),))]


def given_table(rng, table):
    """What may be passed under each name, for a table."""
    size = table[0]
    trees = [plain.drawn_tree(rng, list(range(size))) if size else (), plain.tree(table)]
    nested = [[trees[0]], ["all", [0], [0, 1]], {"all": trees[1]}, ("all", (0,), [0, 1]), tuple(trees)]
    every = tuple(range(size))
    namings = [tuple(rng.sample(every, size)) for _ in range(3)] + [every]
    formulas = [plain_formulas.drawn_formula(rng, list(every)) if size else () for _ in range(2)]
    return {
        "table": [table],
        "tables": [(table,), (table, plain.by(size, lambda x, y: x)), (table,) * 6, (table, FAN)],
        "size": [size],
        "other": {"one": [2, 3], "naming": namings[::-1], "row": namings[::-1], "tree": trees[::-1], "table": [table]},
        "lot": [every, (), tuple(range(0, size, 2)), tuple(range(size // 2)), every[:4]],
        "lots": [tuple((x,) for x in every), tuple(lot for lot in (every[:2], every[2:]) if lot)],
        "even": [False, True],
        "thing": [max(size - 1, 0)],
        **({"one": [0, 1]} if size > 3 else {}),
        "look": [0, 1],
        "weights": [(10 ** 30,) * size, tuple(rng.randint(-9, 9) for _ in every)],
        "place": [0, size, 10 ** 6],
        "naming": namings,
        "row": namings,
        "rows": [tuple(namings), (every,)],
        "formula": formulas + nested,
        "paints": [{look: 99 - look for look in range(100)}],
        "tree": trees + nested,
        "value": [
            *trees, *nested, table, list(table), tree_text(size, trees[0]), tree_text(size, trees[1]), "()", None,
            (every,), [every], [list(every)], (every[:4], every[:6], every), *formulas, *namings, (every, ((0, table),)), [[0], [every]],
            tuple((x,) for x in every), "(0 0/0 1)", tuple(namings), namings,
        ],
        "word": ["ring", "bent", "comb", "half"],
    }


def given_web(rng, web):
    """What may be passed under each name, for a web."""
    size = web[0]
    found = plain_webs.arrows(web)
    orders = [plain.drawn_order(rng, size), plain.by(size, lambda x, y: int(x < y and web[1][x][y] == 1))]
    orders += [turning(web) or orders[0]]
    rows = [tuple(rng.sample(range(size), size)) for _ in range(3)]
    return {
        **({"arrow": rng.sample(found, min(3, len(found)))} if found else {}),
        "web": [web],
        "size": [size],
        "order": orders,
        "row": rows,
        "lot": plain.lots(size)[-3:] + [()],
        "place": [0, 1, 719, 10 ** 6],
        "value": [tuple(found), found, [list(orders[0])], *orders, tuple(rows[:2]), rows, None, (), [], {0: rows[0]}],
        "other": {"arrow": found[-3:], "order": orders[::-1], "row": rows[::-1]},
    }


def argument_sets(names, given_ones):
    """Some arguments for some names, as dicts."""
    choices = {name: given_ones[name] for name in names}
    if names == ["word", "size"]:
        choices["size"] = [7, 8]
    if isinstance(choices.get("other"), dict):
        choices["other"] = choices["other"][[name for name in choices["other"] if name in names][0]]
    many = max(len(told) for told in choices.values())
    sets = [{name: told[k % len(told)] for name, told in choices.items()} for k in range(many)]
    if names == ["table", "lot", "other"]:
        sets = [{**one, "other": tuple(x for x in range(one["table"][0]) if x not in one["lot"])} for one in sets]
    return sets


def has_no_lists(value):
    """Whether all sequences in what is returned are tuples."""
    return type(value) in (int, bool, str, type(None)) or (type(value) is tuple and all(map(has_no_lists, value)))


def answer(function, by_place=(), by_name=None):
    """What a call returns, or the error that it raises."""
    try:
        told = function(*by_place, **(by_name or {}))
        assert has_no_lists(told), told
        return repr(told)
    except PieceError as error:
        return type(error).__name__ + repr(vars(error))


class Calls(unittest.TestCase):
    def check(self, function, told):
        kept = copy.deepcopy(told)
        before = time.perf_counter()
        first = answer(function, by_name=dict(reversed(told.items())))
        self.assertLess(time.perf_counter() - before, MOMENT, function.__name__)
        self.assertEqual(first, answer(function, by_place=told.values()))
        self.assertEqual(repr(told), repr(kept))

    def check_all(self, table, given_ones):
        for told in INTERFACE.values():
            for name, names in told.items():
                if set(names) <= set(given_ones) and (name != "put_in" or table[0] > 0):
                    function = [getattr(module, name) for module in INTERFACE if name in INTERFACE[module]][0]
                    self.asked.append(name)
                    for given in argument_sets(names, given_ones):
                        with self.subTest(function=name, given=given):
                            self.check(function, given)

    def test_each_function(self):
        rng = random.Random(21)
        self.asked = []
        for table in wide_tables():
            self.check_all(table, given_table(rng, table))
        for web in plain_webs.wide_webs(22, 1)[-8:] + [plain.by(8, lambda x, y: 1), plain.by(2, lambda x, y: 1), (0, ())]:
            self.check_all(web, given_web(rng, web))
        self.assertEqual(sorted(set(self.asked)), sorted(name for told in INTERFACE.values() for name in told))

    def test_values_of_every_kind(self):
        # Whatever value is, no call raises an error that is none of the package.
        turning_of = {3: (3, ((0, 0, 1), (0, 0, 1), (0, 0, 0)))}
        for table in (LINE, FAN, (1, ((0,),)), (0, ())):
            size = table[0]
            web = FAN if size == 3 else table
            order = turning_of.get(size, table)
            given_ones = {
                "table": table, "web": web, "order": order, "other": order, "size": size, "look": 0, "lots": (), "even": True,
                "lot": tuple(range(size)), "place": 0,
            }
            for module, told in INTERFACE.items():
                for name, names in told.items():
                    for free in [one for one in names if one in ("value", "tree", "formula")]:
                        for value in odd_values() + [("all", Board(FAN), (0, 1)), (Board(FAN), (0,), (0, 1)), (1, 1, Board(FAN)), (3, Board(FAN))]:
                            given = {**given_ones, free: value, **({"other": value} if name == "tree_of_both" else {})}
                            answer(getattr(module, name), by_name={one: given[one] for one in names})


class Methods(unittest.TestCase):
    def given(self, board):
        """Arguments for each method, by their names."""
        size = len(board)
        every = tuple(range(size))
        looks = (1,) * size
        edits = (("paint", (0, 1, 7)), ("drop", (0,)), ("turn", ((),)), ["drop", [0]])
        return {
            "look": {"thing": 0, "other": size - 1}, "piece": {"lot": every[:3]}, "knot": {"lot": every[1:]}, "add": {"looks": looks, "back": list(looks)},
            "drop": {"thing": size - 1}, "paint": {"thing": 0, "other": 1, "look": 7}, "turn": {"lot": every}, "rename": {"naming": every[::-1]},
            "put": {"thing": 0, "table": (1, ((0,),))}, "batch": {"edits": edits[:3]}, "undo": {}, "redo": {}, "at": {"version": 0}, "news": {},
            "attempt": {"work": lambda one: one.version},
        }

    def answer(self, board, name, by_place=(), by_name=None):
        kept = copy.deepcopy((by_place, by_name)) if name != "attempt" else None
        before = time.perf_counter()
        told = answer(getattr(board, name), by_place, by_name)
        self.assertLess(time.perf_counter() - before, MOMENT, name)
        if kept is not None:
            self.assertEqual(repr((by_place, by_name)), repr(kept))
        return told, board.table, board.version, board.news()

    def test_each_method(self):
        wide = [table for table in wide_tables() if table[0] == 8]
        for board in [Board(table) for table in wide + [FAN]] + [KeptBoard(RING), KeptBoard(wide[0])]:
            board.turn(())
            board.turn(())
            board.undo()
            for name, given in self.given(board).items():
                by_place = self.answer(board.copy(), name, by_place=tuple(given.values()))
                by_name = self.answer(board.copy(), name, by_name=dict(reversed(given.items())))
                self.assertEqual(by_place, by_name)
            self.assertEqual({*self.given(board), "__init__", "copy"}, set(CLASSES[next(iter(CLASSES))]))

    def test_lines(self):
        shell = Shell()
        lines = ["new 8", "tree", "pieces", "piece 0 7", "knot 0 1 2", "turn 0 1 2 3", "rename 7 6 5 4 3 2 1 0", "drop 0", "web 1 0 1 0 1 0 1", "undo", "redo"]
        for line in lines * 5:
            before = time.perf_counter()
            shell.say(line)
            self.assertLess(time.perf_counter() - before, MOMENT, line)
