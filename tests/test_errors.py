"""The errors (the interface)."""

import inspect
import unittest

import piecetrees.errors as errors
from piecetrees.errors import PieceError

ARGUMENTS = {
    "Unfit": None, "TooMany": "limit", "BadText": "line", "NotPiece": "lot", "NotTree": "error",
    "TooFar": "count", "NotFirm": "lot", "NotTurning": "error", "NotLoose": "arrow", "NotDrawn": "web",
    "NotFormula": "error", "NoFormula": "lot", "NotOrder": "lot", "NotKeeping": "pair", "NotSame": "naming",
    "NotEven": "pair", "HasTriangle": "lot", "NotTable": "error", "NotThing": "value", "NotLot": "value",
    "BadLooks": None, "BadNaming": None, "BadBatch": None, "Rejected": "index", "TooManyEdits": None,
    "NothingToUndo": None, "NothingToRedo": None, "NoVersion": "given", "Split": "paper",
}
VALUES = (None, True, 0, -7, 10 ** 400, "", "form", (), (0, 1), (0, (1, "x")), [1, [2]], {"a": [1], 2: ()})


class Errors(unittest.TestCase):
    def test_just_these(self):
        classes = {name for name, value in vars(errors).items() if inspect.isclass(value)}
        self.assertEqual(classes, {*ARGUMENTS, "PieceError"})

    def test_piece_error_is_directly_a_value_error(self):
        self.assertEqual(PieceError.__bases__, (ValueError,))

    def test_each_lies_directly_under_piece_error(self):
        for name in ARGUMENTS:
            with self.subTest(name=name):
                made = getattr(errors, name)
                self.assertEqual(made.__bases__, (PieceError,))
                self.assertEqual(made.__module__, "piecetrees.errors")

    def test_each_is_raised_and_caught(self):
        for name, argument in ARGUMENTS.items():
            for kind in (getattr(errors, name), PieceError, ValueError):
                with self.subTest(name=name, kind=kind), self.assertRaises(kind):
                    raise getattr(errors, name)(*([] if argument is None else [3]))

    def test_none_catches_another_one(self):
        for name, argument in ARGUMENTS.items():
            made = getattr(errors, name)(*([] if argument is None else [3]))
            caught = [other for other in ARGUMENTS if isinstance(made, getattr(errors, other))]
            self.assertEqual(caught, [name])

    def test_without_arguments(self):
        for name, argument in ARGUMENTS.items():
            with self.subTest(name=name):
                if argument is None:
                    self.assertEqual(vars(getattr(errors, name)()), {})
                else:
                    self.assertRaises(TypeError, getattr(errors, name))

    def test_each_keeps_what_it_was_made_with(self):
        for name, argument in ARGUMENTS.items():
            if argument is None:
                continue
            made = getattr(errors, name)
            for value in VALUES:
                with self.subTest(name=name, value=value):
                    by_place, by_name = made(value), made(**{argument: value})
                    self.assertIs(getattr(by_place, argument), value)
                    self.assertIs(getattr(by_name, argument), value)
                    self.assertEqual(vars(by_name), {argument: value})
