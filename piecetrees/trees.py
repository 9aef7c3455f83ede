"""The tree of a table, and the texts of trees."""

from piecetrees.bounds import MAX_LOOK
from piecetrees.errors import NotTree
from piecetrees.firm import is_firm
from piecetrees.looks import is_look, is_tuple_of, picked, table_error
from piecetrees.lots import in_order, is_thing, reached_from
from piecetrees.pieces import least_piece
from piecetrees.texts import number_told, row_text, row_told

WORDS = ("all", "line", "firm")


def tree_of(table):
    """The tree of a table."""
    size = table[0]
    return () if size == 0 else tree_at(table, tuple(range(size)))


def tree_at(table, lot):
    """The tree at a strong piece."""
    if len(lot) == 1:
        return lot[0]
    word, looks, sons = knot_at(table, lot)
    return (word, looks, tuple([tree_at(table, son) for son in sons]))


def knot_at(table, lot):
    """The word, the looks and the sons, as lots, of the knot of a strong piece."""
    rows, first = table[1], lot[0]
    # All sons but its own look so on the first thing, if the knot is no firm one.
    met = [(rows[first][x], rows[x][first]) for x in lot[1:]]
    for low, high in sorted(set([(min(looks), max(looks)) for looks in met])):
        sons = sons_by_looks(table, lot, (low, high))
        if len(sons) > 1:
            return ("all", (low,), sons) if low == high else ("line", (low, high), sons)
    sons = firm_sons(table, lot)
    return ("firm", picked(table, [son[0] for son in sons])[1], sons)


def sons_by_looks(table, lot, looks):
    """The most lots a lot falls into, each earlier one looking so on each later one."""
    ahead = {x: reached(table, lot, x, looks) for x in lot}
    ends = sorted(set([ahead[x] for x in lot]))
    if looks[0] != looks[1]:
        # In a line each lot reaches all that are ahead of it, and so more than these do.
        ends = in_order(ends)
    return [tuple([x for x in lot if ahead[x] == end]) for end in ends]


def reached(table, lot, thing, looks):
    """The lot of what, step by step, cannot be in a lot behind that of a thing."""
    rows = table[1]
    return tuple(sorted(reached_from(thing, lambda x: [y for y in lot if (rows[x][y], rows[y][x]) != looks])))


def firm_sons(table, lot):
    """The sons of the firm knot of a strong piece."""
    # Just two things of one son are in a piece that is not the whole knot's.
    sons = [
        tuple([y for y in lot if y == x or least_piece(table, (min(x, y), max(x, y))) != lot])
        for x in lot
    ]
    return sorted(set(sons))


def is_knot(tree):
    """Whether what stands in a nested value is a knot: else it is a thing, or ()."""
    return isinstance(tree, tuple) and len(tree) == 3


def knots_in(tree):
    """The knots of a nested value: each ahead of all in its first son, then all in the next."""
    # A text may nest values deeper than calls may be nested: so no function calls itself here.
    found = []
    left = [tree]
    while left:
        node = left.pop()
        if is_knot(node):
            found.append(node)
            left.extend(node[2][::-1])
    return found


def things_in(tree):
    """The things of a nested value, in the order in which they stand."""
    found = []
    left = [tree]
    while left:
        node = left.pop()
        if is_knot(node):
            left.extend(node[2][::-1])
        elif node != ():
            found.append(node)
    return found


def is_nested(size, value, is_node):
    """Whether a value is nested out of things of a size and of triples that a function finds right."""
    left = [value]
    while left:
        node = left.pop()
        if is_knot(node) and is_node(node):
            left.extend(node[2])
        elif not is_thing(size, node):
            return False
    return True


def is_knot_form(triple):
    """Whether a triple is one of a word, of a tuple, and of a tuple of one item or more."""
    word, looks, sons = triple
    return word in WORDS and isinstance(looks, tuple) and isinstance(sons, tuple) and len(sons) > 0


def has_each_thing(size, value):
    """Whether a nested value has each thing of a size just once."""
    return sorted(things_in(value)) == list(range(size))


def tree_error(size, value):
    """What is first wrong with a value as a tree of a size; None for a tree."""
    if size == 0:
        return None if is_tuple_of(value, 0) else "form"
    if not is_nested(size, value, is_knot_form):
        return "form"
    if not has_each_thing(size, value):
        return "things"
    found = knots_in(value)
    for k in range(len(found)):
        fault = knot_fault(found[k])
        if fault is not None:
            return (fault, k)
    return None


def knot_fault(knot):
    """What is first wrong with a knot of a nested value; None if nothing is."""
    word, looks, sons = knot
    if len(sons) < (3 if word == "firm" else 2):
        return "few"
    least = [min(things_in(son)) for son in sons]
    if word != "line" and least != sorted(least):
        return "order"
    if not are_looks(word, looks, len(sons)):
        return "looks"
    if word != "firm" and any([is_same_knot(son, word, looks) for son in sons]):
        return "same"
    return None


def are_looks(word, looks, many):
    """Whether a tuple is what a knot of a word and of so many sons may have as its looks."""
    if word == "firm":
        return table_error((many, looks)) is None and is_firm((many, looks))
    if len(looks) != (1 if word == "all" else 2) or not all([is_look(look) for look in looks]):
        return False
    return word == "all" or looks[0] < looks[1]


def is_same_knot(son, word, looks):
    """Whether a son is a knot of the word, all or line, with the same looks."""
    # True equals 1, but is no look: so the son's have to be looks themselves.
    return is_knot(son) and son[0] == word and are_looks(word, son[1], 2) and son[1] == looks


def check_tree(size, value):
    """Raises NotTree for a value that is no tree of a size."""
    error = tree_error(size, value)
    if error is not None:
        raise NotTree(error)


def table_of(size, tree):
    """The table whose tree a value is."""
    check_tree(size, tree)
    return nested_table(size, tree, look_of_sons)


def nested_table(size, value, look_between):
    """The table of a nested value, the triples of which a function tells how their items look on one another."""
    rows = [[0] * size for _ in range(size)]
    for first, second, sons in knots_in(value):
        lots = [things_in(son) for son in sons]
        places = [(at, to) for at in range(len(sons)) for to in range(len(sons)) if at != to]
        for at, to in places:
            look = look_between(first, second, at, to)
            for x, y in [(x, y) for x in lots[at] for y in lots[to]]:
                rows[x][y] = look
    return (size, tuple([tuple(row) for row in rows]))


def look_of_sons(word, looks, at, to):
    """How the son at a place looks on the son at another place of a knot."""
    if word == "firm":
        return looks[at][to]
    return looks[0] if word == "all" or at < to else looks[1]


def piece_count(size, tree):
    """How many pieces the table of a tree has."""
    check_tree(size, tree)
    return 1 + size + sum([join_count(word, len(sons)) for word, _, sons in knots_in(tree)])


def join_count(word, many):
    """How many joins of two sons and more of a knot of so many sons are pieces."""
    if word == "all":
        return (1 << many) - many - 1
    return many * (many - 1) // 2 if word == "line" else 1


def tree_text(size, tree):
    """The text of a tree."""
    check_tree(size, tree)
    return "()" if size == 0 else node_text(tree)


def node_text(tree):
    """The text of a thing or a knot."""
    if not is_knot(tree):
        return str(tree)
    word, looks, sons = tree
    if word == "firm":
        told = "/".join([row_text(looks[k], k) for k in range(len(looks))])
    else:
        told = " ".join([str(look) for look in looks])
    return "(" + word + " " + told + ": " + " ".join([node_text(son) for son in sons]) + ")"


def parse_tree(size, value):
    """The tree of a text."""
    # What is no number, or no head of a knot, becomes None: so the form is not that of a tree.
    tree = nested_told(size, value) if isinstance(value, str) else None
    check_tree(size, tree)
    return tree


def nested_told(size, text):
    """The nested value that a text tells; None, or one with a None in it, if it tells none."""
    if size == 0:
        return () if text == "()" else None
    heads, sons = [], [[]]
    while True:
        if text.startswith("("):
            head, _, text = text[1:].partition(": ")
            heads.append(head)
            sons.append([])
            continue
        word = text[:len(text) - len(text.lstrip("0123456789"))]
        node = number_told(word, size - 1)
        text = text[len(word):]
        while heads and text.startswith(")"):
            node = knot_told(heads.pop(), tuple(sons.pop() + [node]))
            text = text[1:]
        if not heads and not text:
            return node
        if not heads or not text.startswith(" "):
            return None
        sons[-1].append(node)
        text = text[1:]


def knot_told(head, sons):
    """The knot of some sons ahead of which a head stands; None if that is no head of one."""
    word, _, told = head.partition(" ")
    looks = looks_told(word, told, len(sons))
    return None if None in looks else (word, tuple(looks), sons)


def looks_told(word, text, many):
    """The looks of a knot of a word and of so many sons; with a None if a text tells none."""
    if word == "firm":
        rows = text.split("/")
        return [row_told(rows[k], many, k) for k in range(many)] if len(rows) == many else [None]
    words = text.split(" ")
    fits = (word, len(words)) in (("all", 1), ("line", 2))
    return [number_told(look, MAX_LOOK) for look in words] if fits else [None]
