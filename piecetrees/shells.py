"""Shells: a board that is told what to do, line by line."""

from piecetrees.boards import Board
from piecetrees.bounds import MAX_THINGS
from piecetrees.errors import PieceError
from piecetrees.texts import number_told
from piecetrees.trees import piece_count, tree_text

MAX_NUMBER = 10 ** 31 - 1


def web_told(board, numbers):
    """The answer to a thing more, which looks on the others as they look on it."""
    return version_text(board.add(numbers, numbers))


def drop_told(board, numbers):
    """The answer to a thing that goes."""
    return version_text(board.drop(numbers[0]))


def paint_told(board, numbers):
    """The answer to another look."""
    return version_text(board.paint(numbers[0], numbers[1], numbers[2]))


def turn_told(board, numbers):
    """The answer to a piece turned about."""
    return version_text(board.turn(numbers))


def rename_told(board, numbers):
    """The answer to new numbers of the things."""
    return version_text(board.rename(numbers))


def undo_told(board, _):
    """The answer to the last edit taken back."""
    return version_text(board.undo())


def redo_told(board, _):
    """The answer to an edit done again."""
    return version_text(board.redo())


def tree_told(board, _):
    """The tree's text."""
    return tree_text(len(board), board.tree)


def pieces_told(board, _):
    """How many pieces there are."""
    return str(piece_count(len(board), board.tree))


def piece_told(board, numbers):
    """The things of the least piece that a lot is in."""
    return " ".join([str(x) for x in board.piece(numbers)])


def knot_told(board, numbers):
    """The word of the knot of a lot."""
    return board.knot(numbers)[0]


def look_told(board, numbers):
    """How a thing looks on another one."""
    return str(board.look(numbers[0], numbers[1]))


def version_text(version):
    """What tells a version."""
    return f"version {version}"


ANSWERS = {
    "web": web_told, "drop": drop_told, "paint": paint_told, "turn": turn_told, "rename": rename_told,
    "undo": undo_told, "redo": redo_told, "tree": tree_told, "pieces": pieces_told, "piece": piece_told,
    "knot": knot_told, "look": look_told,
}
# How many numbers stand behind a word: just so many, or so many at least.
JUST = {"drop": 1, "paint": 3, "undo": 0, "redo": 0, "tree": 0, "pieces": 0, "look": 2}
AT_LEAST = {"web": 0, "turn": 1, "rename": 1, "piece": 1, "knot": 1}


def has_right_many(word, numbers):
    """Whether as many numbers stand behind a word as it takes."""
    return len(numbers) == JUST[word] if word in JUST else len(numbers) >= AT_LEAST[word]


def words_in(line):
    """The words of a line; None for any other value."""
    words = line.split(" ") if isinstance(line, str) else [""]
    return None if "" in words else words


class Shell:
    """Answers lines about a board of its own."""

    def __init__(self):
        self._board = None

    def say(self, line):
        """The answer to a line."""
        words = words_in(line)
        if words is None:
            return "what"
        numbers = tuple([number_told(word, MAX_NUMBER) for word in words[1:]])
        if words[0] == "new":
            return self._new(numbers)
        if words[0] not in ANSWERS:
            return "what"
        if self._board is None:
            return "no board"
        return self._told(words[0], numbers)

    def _new(self, numbers):
        """The answer to a new board, of a table all looks of which are 0."""
        if len(numbers) != 1 or None in numbers or numbers[0] > MAX_THINGS:
            return "what"
        self._board = Board((numbers[0], ((0,) * numbers[0],) * numbers[0]))
        return "ok"

    def _told(self, word, numbers):
        """The answer of the board to a word and the numbers behind it, some of which may be None."""
        if None in numbers or not has_right_many(word, numbers):
            return "what"
        answer = ANSWERS[word]
        try:
            return answer(self._board, numbers)
        except PieceError as error:
            return "no " + str(error)
