"""Shell and its say ([L6])."""

import random
import unittest

import plain
from helper import odd_values
from piecetrees.shells import Shell
from plain_boards import PlainShell

COMMANDS = ("web", "drop", "paint", "turn", "rename", "undo", "redo", "tree", "pieces", "piece", "knot", "look")
GREAT = "9" * 31
START = ("new 2", "web 1 1", "web 0 0 1", "turn 0 1", "undo")


class ShellCase(unittest.TestCase):
    def setUp(self):
        self.shell, self.model = Shell(), PlainShell()

    def say(self, line):
        told, wanted = self.shell.say(line), self.model.say(line)
        self.assertEqual(repr(told), repr(wanted), line)
        return told

    def start(self):
        for line in START:
            self.say(line)


class Lines(ShellCase):
    def test_each_word_with_some_numbers(self):
        for before in ((), START):
            for word in COMMANDS + ("new", "add", "put", "batch", "copy", "New", "web1", "", "x"):
                for more in (
                    "", " 0", " 1", " 2", " 3", " 9", " 0 1", " 1 0", " 0 0", " 0 1 2", " 0 1 2 3", " 3 2 1 0", " 0 1 100", " 0 1 99", " 0 0 5", " 1 3 4 4",
                    " 1 1", " 1 1 1 1", " 00", " 01", " +1", " -1", " 1.0", " x", " 0x", " x 0", " 0 x", " " + GREAT, " " + GREAT + "9", " 1" + "0" * 31,
                    " 0 " + GREAT, " 0 1 " + GREAT, " " + "0" * 31, " 1e3", " 1_0", " 0,1", " 0\n", " 0\n1", "\n", " \n", " \u0661", " ()", " tree",
                ):
                    self.shell, self.model = Shell(), PlainShell()
                    for line in before:
                        self.say(line)
                    self.say(word + more)

    def test_no_line(self):
        for before in (False, True):
            if before:
                self.start()
            for line in COMMANDS + ("new", "tree", "look 0 1", "piece 0 1"):
                for bad in (line + " ", " " + line, line.replace(" ", "  "), "  " + line, line + "\n", "\n" + line, line + " \n", line.upper(), line + "\t", line + line):
                    self.say(bad)
            for bad in ("", " ", "  ", "\n", "\n\n", " tree", "tree ", "tree  ", "look  0 1", "look 0  1", "look 0 1 "):
                self.say(bad)
                if "  " in bad or bad[:1] in ("", " ") or bad[-1:] == " ":
                    self.assertEqual(self.shell.say(bad), "what", bad)

    def test_no_strings(self):
        for before in (False, True):
            if before:
                self.start()
            for value in odd_values() + [b"tree", ["tree"], ("tree",), {"tree": 1}, 0.5, self.shell]:
                self.assertEqual(self.say(value) if not isinstance(value, str) else "what", "what")

    def test_new(self):
        for line in ("new", "new 9", "new 10", "new 08", "new -1", "new x", "new 1 1", "new " + GREAT, "new 0 0", "new 1 x", "new +1", "news 1", "new1"):
            self.assertEqual(self.say(line), "what")
            self.assertEqual(self.say("tree"), "no board")
        for size in range(9):
            self.assertEqual(self.say(f"new {size}"), "ok")
            self.say("tree")
            self.say("pieces")
            self.assertEqual(self.say("undo"), "no NothingToUndo")
        # A line that is no such line leaves the board that is there.
        self.say("new 2")
        self.say("web 1 1")
        for line in ("new 9", "new", "new 2 2"):
            self.assertEqual(self.say(line), "what")
            self.assertEqual(self.say("pieces"), "6")
        self.assertEqual(self.say("new 2"), "ok")
        self.assertEqual((self.say("undo"), self.say("redo"), self.say("pieces")), ("no NothingToUndo", "no NothingToRedo", "4"))

    def test_ahead_of_the_first_new(self):
        for word in COMMANDS:
            for more in ("", " 0", " x", " 0 0 0 0", " " + GREAT + "0", " \n", " -1"):
                self.assertEqual(self.say(word + more), "no board")
            for line in (word + " ", " " + word, word + "  0", word + "\n", word.upper()):
                self.assertEqual(self.say(line), "what")

    def test_great_numbers(self):
        self.start()
        self.assertEqual(self.say("drop " + GREAT), "no NotThing")
        self.assertEqual(self.say("drop " + GREAT + "0"), "what")
        self.assertEqual(self.say("drop 1" + "0" * 30), "no NotThing")
        self.assertEqual(self.say("drop 1" + "0" * 31), "what")
        self.assertEqual(self.say("paint 0 1 " + GREAT), "no BadLooks")
        self.assertEqual(self.say("paint 0 1 " + GREAT + "0"), "what")
        self.assertEqual(self.say("web " + " ".join([GREAT] * 3)), "no BadLooks")
        self.assertEqual(self.say("web 1 1 " + GREAT + "0"), "what")
        self.assertEqual(self.say("new " + GREAT), "what")

    def test_each_error(self):
        told = {}
        self.say("new 8")
        for line in ("web" + " 0" * 8, "web 1", "web", "drop 8", "paint 0 8 1", "paint 1 1 1", "paint 0 1 100", "undo", "redo", "rename 0 1", "rename 0 0", "piece 1 0", "knot 0", "knot 8 9", "look 0 0", "look 8 0"):
            told[self.say(line)] = True
        self.say("paint 0 1 1")
        told[self.say("turn 0 2")] = True
        self.say("undo")
        for version in range(1, 41):
            self.assertEqual(self.say("turn 0"), f"version {version}")
        for line in ("turn 0", "drop 0", "rename 0 1 2 3 4 5 6 7", "paint 0 1 1"):
            self.assertEqual(self.say(line), "no TooManyEdits")
        self.assertEqual(self.say("drop 9"), "no NotThing")
        self.assertEqual(set(told), {"no " + name for name in "TooMany BadLooks NotThing NothingToUndo NothingToRedo BadNaming NotLot NotPiece".split()})

    def test_no_things(self):
        self.say("new 0")
        for line, wanted in (
            ("tree", "()"), ("pieces", "1"), ("web", "version 1"), ("tree", "0"), ("undo", "version 0"), ("redo", "version 1"), ("drop 0", "version 2"),
            ("rename", "what"), ("turn", "what"), ("piece", "what"), ("drop 0", "no NotThing"), ("web 0", "no BadLooks"), ("piece 0", "no NotLot"),
        ):
            self.assertEqual(self.say(line), wanted)

    def test_drawn_lines(self):
        rng = random.Random(290)
        for _ in range(40):
            self.shell, self.model = Shell(), PlainShell()
            for _ in range(40):
                size = self.model.board.tables[-1][0] if self.model.board else 3
                word = rng.choice(COMMANDS + ("web", "web", "paint", "undo", "redo")) if rng.random() < 0.95 else "new"
                many = {"web": size, "drop": 1, "paint": 3, "rename": size, "look": 2, "new": 1}.get(word, rng.randint(1, max(size, 1)))
                numbers = [] if word in ("undo", "redo", "tree", "pieces") else [rng.randrange(size + 1) for _ in range(many)]
                if word in ("turn", "piece", "knot", "rename") and rng.random() < 0.8:
                    numbers = rng.sample(range(size), min(many, size))
                    numbers = numbers if word == "rename" else sorted(numbers)
                if word == "web":
                    numbers = [min(look, 1) for look in numbers]
                if rng.random() < 0.05:
                    numbers.append(0)
                self.say(" ".join([word, *map(str, numbers)]))

    def test_shells_of_their_own(self):
        other = Shell()
        self.assertEqual(self.shell.say("new 3"), "ok")
        self.assertEqual((other.say("tree"), self.shell.say("tree")), ("no board", "(all 0: 0 1 2)"))

    def test_firm(self):
        for line in ("new 1", "web 1", "web 0 1", "web 0 0 1"):
            self.say(line)
        for line in ("tree", "knot 0 3", "piece 0 1", "pieces"):
            self.say(line)
        self.assertEqual(self.shell.say("knot 1 2"), "firm")
        self.assertEqual(plain.is_firm(self.model.board.tables[-1]), True)

    def test_by_name_and_of_its_own(self):
        self.assertEqual(Shell().say(line="tree"), "no board")
        self.assertIn("say", vars(Shell))
