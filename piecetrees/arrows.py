"""Arrows of a web, and how they force one another."""

from piecetrees.knots import knots


def arrows_of(web):
    """All arrows, ascending."""
    size, rows = web
    return [(x, y) for x in range(size) for y in range(size) if rows[x][y] == 1]


def forced(web, arrow):
    """The arrows that an arrow forces, ascending."""
    size, rows = web
    x, y = arrow
    onward = [(x, z) for z in range(size) if z != y and rows[z][x] == 1 and rows[z][y] == 0]
    toward = [(z, y) for z in range(size) if z != x and rows[z][y] == 1 and rows[z][x] == 0]
    return tuple(sorted(onward + toward))


def steps_from(web, arrow):
    """How many steps of forcing lead from an arrow to each one of its class, as a dict."""
    steps = {arrow: 0}
    found = [arrow]
    done = 0
    while done < len(found):
        here = found[done]
        for one in forced(web, here):
            if one not in steps:
                steps[one] = steps[here] + 1
                found.append(one)
        done += 1
    return steps


def class_of(web, arrow):
    """The class of an arrow, ascending."""
    return tuple(sorted(steps_from(web, arrow)))


def arrow_classes(web):
    """All classes of arrows, ascending by their first arrows."""
    classes = []
    for arrow in arrows_of(web):
        if not any([arrow in one for one in classes]):
            classes.append(class_of(web, arrow))
    return tuple(classes)


def chain(web, arrow, other):
    """The first of the shortest chains of forcing from an arrow to another one; None if there is none."""
    # What forces is forced, too: so the steps from the last one are those to it.
    steps = steps_from(web, other)
    if arrow not in steps:
        return None
    found = [arrow]
    while found[-1] != other:
        found.append([one for one in forced(web, found[-1]) if steps[one] < steps[found[-1]]][0])
    return tuple(found)


def clash(web):
    """The chain from the first arrow whose class clashes to its contrary; None if no class does."""
    for arrow in arrows_of(web):
        told = chain(web, arrow, (arrow[1], arrow[0]))
        if told is not None:
            return told
    return None


def class_knot(web, arrow):
    """The piece and the word of the knot that tells the class of an arrow, and the sons between which the class is."""
    x, y = arrow
    # The knots are in order, and those that have both things are in one another.
    piece, word, _, sons = [knot for knot in knots(web) if x in knot[0] and y in knot[0]][0]
    return (piece, word, tuple([son for son in sons if word == "firm" or x in son or y in son]))
