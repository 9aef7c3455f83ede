"""A plain board and a plain shell, straight from the words of the document, and arguments to try edits with."""

import itertools
import re

import piecetrees.errors as errors
import plain
from helper import odd_values

WORDS = ("add", "drop", "paint", "turn", "rename", "put")
MANY = {"add": 2, "drop": 1, "paint": 3, "turn": 1, "rename": 1, "put": 2}


def is_int(value, low, high):
    return type(value) is int and low <= value < high


def is_looks(value, many):
    return type(value) is tuple and len(value) == many and all(is_int(look, 0, 100) for look in value)


def table_error(value):
    """What is first wrong with a value as a table."""
    if type(value) is not tuple or len(value) != 2 or not is_int(value[0], 0, 9):
        return "size"
    size, rows = value
    if type(rows) is not tuple or len(rows) != size:
        return "rows"
    for x in range(size):
        if type(rows[x]) is not tuple or len(rows[x]) != size:
            return x
    for x, y in itertools.product(range(size), repeat=2):
        if not is_int(rows[x][y], 0, 100) or (x == y and rows[x][y] != 0):
            return (x, y)
    return None


def is_lot(size, value):
    return type(value) is tuple and all(is_int(x, 0, size) for x in value) and list(value) == sorted(set(value))


def edited(table, word, given):
    """The table behind an edit, or the error that it raises."""
    size, rows = table
    if word == "add":
        if not is_looks(given[0], size) or not is_looks(given[1], size):
            return errors.BadLooks()
        if size == 8:
            return errors.TooMany(8)
        return (size + 1, tuple(rows[x] + (given[0][x],) for x in range(size)) + (given[1] + (0,),))
    if word in ("drop", "put") and not is_int(given[0], 0, size):
        return errors.NotThing(given[0])
    if word == "drop":
        return plain.part(table, [x for x in range(size) if x != given[0]])
    if word == "paint":
        return painted(table, *given)
    if word == "turn":
        lot = given[0]
        if not is_lot(size, lot) or not plain.is_piece(table, lot):
            return errors.NotPiece(lot)
        return plain.by(size, lambda x, y: rows[y][x] if x in lot and y in lot else rows[x][y])
    if word == "rename":
        naming = given[0]
        if type(naming) is not tuple or any(type(x) is not int for x in naming) or sorted(naming) != list(range(size)):
            return errors.BadNaming()
        return plain.by(size, lambda x, y: rows[naming.index(x)][naming.index(y)])
    return with_put(table, *given)


def painted(table, thing, other, look):
    for value in (thing, other):
        if not is_int(value, 0, table[0]):
            return errors.NotThing(value)
    if thing == other:
        return errors.NotThing(other)
    if not is_int(look, 0, 100):
        return errors.BadLooks()
    return plain.by(table[0], lambda x, y: look if (x, y) == (thing, other) else table[1][x][y])


def with_put(table, thing, other):
    error = table_error(other)
    if error is not None:
        return errors.NotTable(error)
    if table[0] - 1 + other[0] > 8:
        return errors.TooMany(8)
    named = [(x, k) for x in range(table[0]) for k in range(other[0] if x == thing else 1)]
    pairs = [(one, two) for one in named for two in named]
    looks = {(one, two): other[1][one[1]][two[1]] if one[0] == two[0] == thing else table[1][one[0]][two[0]] for one, two in pairs}
    return plain.by(len(named), lambda at, to: looks[named[at], named[to]])


def batched(table, edits):
    """The table behind a batch, or the error that it raises."""
    pairs = type(edits) is tuple and len(edits) <= 12 and all(type(edit) is tuple and len(edit) == 2 for edit in edits)
    if not pairs or any(type(word) is not str or word not in WORDS for word, _ in edits):
        return errors.BadBatch()
    if any(type(given) is not tuple or len(given) != MANY[word] for word, given in edits):
        return errors.BadBatch()
    for index, (word, given) in enumerate(edits):
        table = edited(table, word, given)
        if isinstance(table, errors.PieceError):
            return errors.Rejected(index)
    return table


def paper(table):
    """What Split has to tell of a table that is not firm; None of a firm one."""
    if table[0] < 3:
        return ()
    found = [lot for lot in plain.pieces(table) if 2 <= len(lot) < table[0]]
    return found[0] if found else None


class PlainBoard:
    """What a board has to be: its tables of all versions, what was taken back, and its news."""

    def __init__(self, table, kept=False):
        self.tables, self.back, self.news, self.kept = [table], [], ((), ()), kept

    def show(self, tables):
        before, after = plain.strong(self.tables[-1]), plain.strong(tables[-1])
        self.news = (tuple(lot for lot in before if lot not in after), tuple(lot for lot in after if lot not in before))
        self.tables = tables
        return len(tables) - 1

    def does(self, word, *given):
        """The version behind an edit, undo or redo, or the error."""
        if word == "undo":
            if len(self.tables) == 1:
                return errors.NothingToUndo()
            self.back.append(self.tables[-1])
            return self.show(self.tables[:-1])
        if word == "redo":
            return self.show(self.tables + [self.back.pop()]) if self.back else errors.NothingToRedo()
        table = self.tables[-1]
        table = batched(table, *given) if word == "batch" else edited(table, word, given)
        if isinstance(table, errors.PieceError):
            return table
        if self.kept and paper(table) is not None:
            return errors.Split(paper(table))
        if len(self.tables) > 40:
            return errors.TooManyEdits()
        self.back = []
        return self.show(self.tables + [table])

    def copy(self):
        other = PlainBoard(None, self.kept)
        other.tables, other.back, other.news = list(self.tables), list(self.back), self.news
        return other


def right_arguments(rng, table, word):
    """Drawn arguments that an edit takes; if a thing is asked for, there has to be one."""
    size = table[0]
    if word == "add":
        return tuple(tuple(rng.choice((0, 1, 1, 99)) for _ in range(size)) for _ in range(2))
    if word == "turn":
        return (rng.choice(plain.pieces(table)),)
    if word == "rename":
        return (tuple(rng.sample(range(size), size)),)
    if word == "paint" and size < 2 or size == 0:
        return None
    if word == "paint":
        return (*rng.sample(range(size), 2), rng.choice((0, 1, 50, 99)))
    if word == "put":
        other = rng.choice(plain.drawn_tables(rng.randrange(999), rng.randint(0, 9 - size)))
        return (rng.randrange(size), other)
    return (rng.randrange(size),)


def bent_arguments(rng, table, word):
    """Arguments of an edit of which one at least is bent."""
    size = table[0]
    good = right_arguments(rng, table, word)
    if good is None:
        good = (0,) * MANY[word]
    bent = rng.sample(odd_values(), 6) + [True, False, -1, size, size - 1, 0, 100, 99, None, size + 7]
    bent += [tuple(range(size)), tuple(range(size + 1)), tuple(range(1, size)), list(range(size)), (True,) * size, (100,) * size, (0,) * size]
    bent += [tuple(reversed(range(size))), (-1,) * size, (None,) * size, table, (size, list(table[1])), plain.by(8, lambda x, y: 1), (0, 1, 1), (0, 2)]
    for k in range(len(good)):
        for value in bent:
            yield good[:k] + (value,) + good[k + 1:]
    for _ in range(12):
        yield tuple(rng.choice(bent) for _ in good)


class PlainShell:
    """What a shell has to answer."""

    def __init__(self):
        self.board = None

    def say(self, line):
        if type(line) is not str or not re.fullmatch("[^ ]+( [^ ]+)*", line, re.DOTALL):
            return "what"
        word, *more = line.split(" ")
        good = all(re.fullmatch("0|[1-9][0-9]{0,30}", one) for one in more)
        numbers = [int(one) for one in more] if good else []
        if word == "new":
            if not good or len(numbers) != 1 or numbers[0] > 8:
                return "what"
            self.board = PlainBoard(plain.by(numbers[0], lambda x, y: 0))
            return "ok"
        many = {
            "web": (0, 9999), "drop": (1, 1), "paint": (3, 3), "turn": (1, 9999), "rename": (1, 9999), "undo": (0, 0), "redo": (0, 0),
            "tree": (0, 0), "pieces": (0, 0), "piece": (1, 9999), "knot": (1, 9999), "look": (2, 2),
        }
        if word not in many:
            return "what"
        if self.board is None:
            return "no board"
        if not good or not many[word][0] <= len(numbers) <= many[word][1]:
            return "what"
        told = self.answer(word, tuple(numbers))
        return "no " + type(told).__name__ if isinstance(told, errors.PieceError) else str(told)

    def answer(self, word, numbers):
        table = self.board.tables[-1]
        if word in ("web", "drop", "paint", "turn", "rename", "undo", "redo"):
            given = {"web": (numbers, numbers), "turn": (numbers,), "rename": (numbers,), "undo": (), "redo": ()}.get(word, numbers)
            told = self.board.does("add" if word == "web" else word, *given)
            return told if isinstance(told, errors.PieceError) else "version " + str(told)
        if word == "tree":
            return "()" if table[0] == 0 else tree_text(plain.tree(table))
        if word == "pieces":
            return len(plain.pieces(table))
        if word == "look":
            bad = [x for x in numbers if x >= table[0]] or ([numbers[1]] if numbers[0] == numbers[1] else [])
            return errors.NotThing(bad[0]) if bad else table[1][numbers[0]][numbers[1]]
        if not is_lot(table[0], numbers) or (word == "knot" and len(numbers) < 2):
            return errors.NotLot(numbers)
        if word == "piece":
            found = [lot for lot in plain.pieces(table) if set(numbers) <= set(lot)]
            return " ".join(map(str, min(found, key=len)))
        return knot(table, numbers)[0]


def tree_text(tree):
    if type(tree) is int:
        return str(tree)
    word, looks, sons = tree
    if word == "firm":
        told = "/".join(" ".join("-" if x == y else str(looks[x][y]) for y in range(len(looks))) for x in range(len(looks)))
    else:
        told = " ".join(map(str, looks))
    return "(" + word + " " + told + ": " + " ".join(map(tree_text, sons)) + ")"


def knot(table, lot):
    """The word, the looks and the sons, as lots, of the least strong piece that a lot of two things is in."""
    found = [tree for tree in plain.knots_in(plain.tree(table)) if set(lot) <= set(plain.things_in(tree))]
    word, looks, sons = min(found, key=lambda tree: len(plain.things_in(tree)))
    return word, looks, tuple(tuple(sorted(plain.things_in(son))) for son in sons)
