"""Plain checks of webs, arrows, turnings and rows, straight from the words of the document."""

import itertools
import random

import plain

ROUND = plain.by(5, lambda x, y: int((x - y) % 5 in (1, 4)))
NOT_ROUND = plain.by(6, lambda x, y: int((x - y) % 6 not in (1, 5)))


def webs_of(size):
    """All webs of a size."""
    pairs = list(itertools.combinations(range(size), 2))
    for looks in itertools.product((0, 1), repeat=len(pairs)):
        told = dict(zip(pairs, looks))
        yield plain.by(size, lambda x, y: told[(min(x, y), max(x, y))])


def small_webs():
    """All webs of up to four things, and some of five."""
    five = list(webs_of(5))
    return [web for size in range(5) for web in webs_of(size)] + random.Random(50).sample(five, 40) + [ROUND]


def wide_webs(seed, many):
    """Webs of six to eight things: drawn ones, ones with pieces in pieces, ones without ties and with all."""
    rng = random.Random(seed)
    found = []
    for size in (6, 7, 8):
        found += [plain.by(size, lambda x, y: 0), plain.by(size, lambda x, y: 1), plain.by(size, lambda x, y: int(abs(x - y) == 1))]
        for _ in range(many):
            row, other = rng.sample(range(size), size), rng.sample(range(size), size)
            found.append(drawn(row, other))
            found.append(plain.drawn_even(rng, size, (0, 1)))
            found.append(plain.drawn_even(rng, size, (0, 0, 0, 1)))
            found.append(plain.drawn_split(rng, size, lambda many: rng.choice((flat_web, drawn_web))(rng, many)))
    return found + [NOT_ROUND]


def flat_web(rng, size):
    look = rng.choice((0, 1))
    return plain.by(size, lambda x, y: look)


def drawn_web(rng, size):
    return drawn(rng.sample(range(size), size), rng.sample(range(size), size))


def arrows(web):
    """All arrows, ascending."""
    return [(x, y) for x in range(web[0]) for y in range(web[0]) if x != y and web[1][x][y] == 1]


def forced(web, arrow):
    """All arrows that an arrow forces, ascending."""
    x, y = arrow
    tied = set(arrows(web))
    found = set()
    for z in range(web[0]):
        if z != y and (x, z) in tied and (y, z) not in tied:
            found.add((x, z))
        if z != x and (z, y) in tied and (x, z) not in tied:
            found.add((z, y))
    return sorted(found)


def chains(web, arrow):
    """The first shortest chain from an arrow to each of its class."""
    found = {arrow: (arrow,)}
    last = dict(found)
    while last:
        more = {}
        for here, way in last.items():
            for one in forced(web, here):
                if one not in found:
                    more[one] = min(more.get(one, (*way, one)), (*way, one))
        found.update(more)
        last = more
    return found


def classes(web):
    """All classes, ascending."""
    return sorted({tuple(sorted(chains(web, arrow))) for arrow in arrows(web)})


def is_turning(web, order):
    """Whether an order is one of just the tied things."""
    size, rows = order
    leads = all(rows[x][z] for x, y, z in itertools.product(range(size), repeat=3) if rows[x][y] and rows[y][z])
    return leads and all(rows[x][y] + rows[y][x] == web[1][x][y] for x, y in itertools.combinations(range(size), 2))


def turnings(web):
    """All turnings, ascending."""
    ties = [(x, y) for x, y in arrows(web) if x < y]
    found = []
    for looks in itertools.product((0, 1), repeat=len(ties)):
        told = {pair: look for (x, y), look in zip(ties, looks) for pair in [(x, y) if look else (y, x)]}
        order = plain.by(web[0], lambda x, y: int((x, y) in told))
        if is_turning(web, order):
            found.append(order)
    return sorted(found)


def order_of(row, other):
    """The order in which a thing is ahead of another one if it is so in both rows."""
    return plain.by(len(row), lambda x, y: int(row.index(x) < row.index(y) and other.index(x) < other.index(y)))


def drawn(row, other):
    """The web in which things are tied that stand in unlike order."""
    return plain.by(len(row), lambda x, y: int((row.index(x) < row.index(y)) != (other.index(x) < other.index(y))))


def rest(web):
    """The web with ties where a web has none."""
    return plain.by(web[0], lambda x, y: 1 - web[1][x][y])
