"""Names: which tables are alike but for the numbers of their things, and what leads a table to itself."""

from math import factorial

from piecetrees.bounds import MAX_NAMED, MAX_SAMES
from piecetrees.errors import NotSame, TooFar, TooMany, Unfit
from piecetrees.looks import picked, renamed, turned
from piecetrees.lots import in_order, reached_from
from piecetrees.rows import is_row
from piecetrees.turnings import orderings


def renaming(table, other):
    """The first naming by which renamed of a table is another one; None if they are not alike."""
    check_sizes(table[0], other[0])
    return naming_from(table, other, ())


def check_sizes(size, other):
    """Raises Unfit for unlike sizes."""
    if size != other:
        raise Unfit()


def naming_from(table, other, begun):
    """The first naming that begins so and by which renamed of a table is another one; None if there is none."""
    hosts = hosts_in(table, other)
    if not all([begun[k] in next_numbers(table, other, hosts, begun[:k]) for k in range(len(begun))]):
        return None
    return completed(table, other, hosts, begun)


def hosts_in(table, other):
    """For each thing of a table those of another one that see, and are seen, just as it is, but for names."""
    seen, there = [marks(table, x) for x in range(table[0])], [marks(other, x) for x in range(other[0])]
    return [[new for new in range(other[0]) if there[new] == mark] for mark in seen]


def marks(table, thing):
    """How a thing looks on the others, and is looked on, ascending."""
    rows = table[1]
    return sorted([(rows[thing][x], rows[x][thing]) for x in range(table[0]) if x != thing])


def next_numbers(table, other, hosts, begun):
    """The new numbers, ascending, that the next thing behind a begun naming may get."""
    return [new for new in hosts[len(begun)] if new not in begun and fits(table, other, begun, new)]


def fits(table, other, begun, new):
    """Whether, with a new number, the next thing looks on those that have new numbers as before, and they on it."""
    rows, there, thing = table[1], other[1], len(begun)
    return all([
        rows[x][thing] == there[begun[x]][new] and rows[thing][x] == there[new][begun[x]]
        for x in range(thing)
    ])


def completed(table, other, hosts, begun):
    """The first naming that goes on from a begun one and leads one table to another one; None if none does."""
    if len(begun) == table[0]:
        return begun
    for new in next_numbers(table, other, hosts, begun):
        naming = completed(table, other, hosts, begun + (new,))
        if naming is not None:
            return naming
    return None


def alike_count(table):
    """How many tables are alike to a table."""
    return factorial(table[0]) // same_count(table)


def round_naming(table):
    """The first naming by which renamed of a table is its turned one; None if there is none."""
    return naming_from(table, turned(table), ())


def is_same(table, naming):
    """Whether a naming is a same."""
    return renamed(table, naming) == table


def same_count(table):
    """How many sames there are."""
    return fixing_counts(table)[0]


def fixing_counts(table):
    """For each k from 0 to the size, how many sames lead each thing below k to itself."""
    size = table[0]
    counts = [1]
    for k in reversed(range(size)):
        # To whatever a thing may be led, there are as many ways to lead the things behind it.
        counts = [len(next_led(table, tuple(range(k)))) * counts[0]] + counts
    return counts


def next_led(table, begun):
    """The things to which sames that begin so lead the next thing, ascending."""
    return [new for new in range(table[0]) if naming_from(table, table, begun + (new,)) is not None]


def sames(table):
    """All sames, in order."""
    if same_count(table) > MAX_SAMES:
        raise TooMany(MAX_SAMES)
    hosts = hosts_in(table, table)
    found = [()]
    for _ in range(table[0]):
        found = [begun + (new,) for begun in found for new in next_numbers(table, table, hosts, begun)]
    return tuple(found)


def same_at(table, place):
    """The same at a place of the row of all."""
    counts = fixing_counts(table)
    if place >= counts[0]:
        raise TooFar(counts[0])
    naming = ()
    for many in counts[1:]:
        naming = naming + (next_led(table, naming)[place // many],)
        place = place % many
    return naming


def same_place(table, naming):
    """The place of a same in the row of all."""
    if not is_same(table, naming):
        raise NotSame(naming)
    counts = fixing_counts(table)
    return sum([next_led(table, naming[:k]).index(naming[k]) * counts[k + 1] for k in range(len(naming))])


def behind(naming, other):
    """The naming that is another one behind a naming."""
    check_sizes(len(naming), len(other))
    return tuple([other[new] for new in naming])


def kinds(table):
    """The lots of the things that sames lead to one another, in order."""
    made = makers(table)
    found = [led_by(made, x) for x in range(table[0])]
    return tuple(in_order([found[x] for x in range(table[0]) if found[x][0] == x]))


def led_by(namings, thing):
    """The lot of what sames, any of them behind any other, lead a thing to."""
    return tuple(sorted(reached_from(thing, lambda x: [naming[x] for naming in namings])))


def makers(table):
    """Sames, fewer than there are things, that make all."""
    found = []
    # Those that are found make all sames that lead each thing below k to itself. Each further one
    # leads k to where they do not: so there are fewer kinds each time, and at the end one at least.
    for k in reversed(range(table[0])):
        for new in next_led(table, tuple(range(k))):
            if new not in led_by(found, k):
                found.append(naming_from(table, table, tuple(range(k)) + (new,)))
    return tuple(found)


def makers_hold(table, value):
    """Whether a value is a tuple of sames that makes all."""
    if not isinstance(value, tuple) or not all([is_row(table[0], one) and is_same(table, one) for one in value]):
        return False
    return made_count(value) == same_count(table)


def made_count(namings):
    """How many namings some make, any of them behind any other, with that which leads each thing to itself."""
    # For a thing and another one: what leads the one to the other, and each lesser thing to itself.
    # When all of these, one behind another, give nothing more, each naming made is one of them
    # behind one for a greater thing, and so on, in just one way.
    known = {}
    left = list(namings)
    while left:
        naming = led_back(known, left.pop())
        moved = [x for x in range(len(naming)) if naming[x] != x]
        if moved:
            known[(moved[0], naming[moved[0]])] = naming
            ones = list(known.values())
            left.extend([behind(naming, one) for one in ones] + [behind(one, naming) for one in ones])
    count = 1
    for x in sorted(set([pair[0] for pair in known])):
        count = count * (1 + len([pair for pair in known if pair[0] == x]))
    return count


def led_back(known, naming):
    """What is left of a naming when those that are known have led back what they can, the least things first."""
    for x in range(len(naming)):
        if naming[x] != x:
            if (x, naming[x]) not in known:
                return naming
            naming = behind(naming, inverse(known[(x, naming[x])]))
    return naming


def inverse(naming):
    """The naming that leads each new number back."""
    return tuple([naming.index(new) for new in range(len(naming))])


def normal(table):
    """The least of all tables alike to a table."""
    if table[0] > MAX_NAMED:
        raise TooMany(MAX_NAMED)
    return min([picked(table, things) for things in orderings(table[0])])
