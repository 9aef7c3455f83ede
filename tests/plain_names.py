"""Plain checks of namings, straight from the words of the document, and tables to try them on."""

import functools
import itertools
import random

import plain
from helper import FAN, LINE, RING, sample_tables, small_tables

PAIRS = plain.by(4, lambda x, y: int(x // 2 == y // 2))
CUBE = plain.by(8, lambda x, y: int(bin(x ^ y).count("1") == 1))


def renamed(table, naming):
    """The table in which the new numbers look on one another as the things do."""
    looks = {(naming[x], naming[y]): table[1][x][y] for x, y in itertools.permutations(range(table[0]), 2)}
    return plain.by(table[0], lambda x, y: looks[x, y])


def namings(size):
    return list(itertools.permutations(range(size)))


@functools.cache
def sames(table):
    """All sames, in order."""
    return [naming for naming in namings(table[0]) if renamed(table, naming) == table]


def behind(naming, other):
    """Where other leads what naming led each thing to."""
    return tuple(other[naming[x]] for x in range(len(naming)))


def made_of(size, given):
    """All namings that come from some, one behind another."""
    found = {tuple(range(size))}
    last = found
    while last:
        last = {behind(one, two) for one in last for two in given} - found
        found = found | last
    return found


def small_tables_of_names():
    """Tables of up to five things, many of which have sames."""
    rng = random.Random(190)
    found = [table for seed in range(191, 195) for size in range(6) for table in plain.drawn_tables(seed, size)]
    found += [table for table in sample_tables() if table[0] <= 5] + small_tables(3, (0, 1))[::3] + [FAN, LINE, RING, PAIRS]
    for _ in range(12):
        found.append(plain.drawn_split(rng, 5, lambda many: flat(rng, many)))
    return found + [plain.by(5, lambda x, y: int((y - x) % 5 in (1, 2))), plain.by(5, lambda x, y: int((y - x) % 5 in (1, 4)))]


def wide_tables_of_names(seed):
    """Tables of six to eight things, many of which have sames."""
    rng = random.Random(seed)
    found = [table for size in (6, 7, 8) for table in plain.drawn_tables(seed, size)]
    for size in (6, 7, 8):
        found += [plain.by(size, lambda x, y: int((y - x) % size in steps)) for steps in ((1,), (1, size - 1), (1, 2), (2, 3))]
        found += [plain.drawn_split(rng, size, lambda many: flat(rng, many)) for _ in range(5)]
    found += [plain.by(8, lambda x, y: int(x % 4 == y % 4)), plain.by(8, lambda x, y: int(x // 4 == y // 4)), CUBE]
    return found + [plain.by(8, lambda x, y: int((x, y) == (6, 7))), plain.by(8, lambda x, y: int(x // 2 == y // 2))]


def flat(rng, size):
    look = rng.choice((0, 1))
    return plain.by(size, lambda x, y: look)


def shuffled(rng, table):
    """A table with drawn names, and the naming."""
    naming = tuple(rng.sample(range(table[0]), table[0]))
    return renamed(table, naming), naming
