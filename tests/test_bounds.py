"""The bounds (the interface)."""

import unittest

import piecetrees.bounds as bounds

WANTED = {
    "MAX_THINGS": 8, "MAX_LOOK": 99, "MAX_LISTED": 1000, "MAX_ABOUTS": 60, "MAX_WEIGHT": 10 ** 30,
    "MAX_SAMES": 1000, "MAX_NAMED": 6, "MAX_MENDED": 4, "MAX_TABLES": 6, "MAX_LOTS": 12,
    "MAX_EDITS": 40, "BATCH": 12,
}


class Bounds(unittest.TestCase):
    def test_all_twelve(self):
        told = {name: getattr(bounds, name) for name in dir(bounds) if not name.startswith("_")}
        self.assertEqual(told, WANTED)
        self.assertEqual({type(value) for value in told.values()}, {int})
