"""Formulas: how a table is put together out of its things, and the texts of formulas."""

from math import factorial

from piecetrees.bounds import MAX_LOOK
from piecetrees.errors import NoFormula, NotFormula
from piecetrees.firm import first_firm
from piecetrees.looks import is_look, is_tuple_of
from piecetrees.texts import number_told
from piecetrees.trees import has_each_thing, is_knot, is_nested, knots_in, nested_table, tree_of


def formula_error(size, value):
    """What is first wrong with a value as a formula of a size; None for a formula."""
    if size == 0:
        return None if is_tuple_of(value, 0) else "form"
    if not is_nested(size, value, is_part_form):
        return "form"
    return None if has_each_thing(size, value) else "things"


def is_part_form(triple):
    """Whether a triple is one of two looks and of a tuple of two items or more."""
    low, high, parts = triple
    return is_look(low) and is_look(high) and isinstance(parts, tuple) and len(parts) >= 2


def check_formula(size, formula):
    """Raises NotFormula for a value that is no formula of a size."""
    error = formula_error(size, formula)
    if error is not None:
        raise NotFormula(error)


def table_told(size, formula):
    """The table that a formula tells."""
    check_formula(size, formula)
    return nested_table(size, formula, look_of_parts)


def look_of_parts(onward, back, at, to):
    """How the part at a place looks on the part at another place of a triple."""
    return onward if at < to else back


def has_formula(table):
    """Whether some formula tells a table."""
    return first_firm(table) is None


def is_normal(size, formula):
    """Whether a formula is the normal one of those that tell its table."""
    return made_normal(size, formula) == formula


def formula_of(table):
    """The normal formula of a table."""
    lot = first_firm(table)
    if lot is not None:
        raise NoFormula(lot)
    return formula_at(tree_of(table))


def formula_at(tree):
    """The normal formula of a tree without firm knots."""
    if not is_knot(tree):
        return tree
    _, looks, sons = tree
    # An all knot has one look, which is the first and the last.
    return (looks[0], looks[-1], tuple([formula_at(son) for son in sons]))


def made_normal(size, formula):
    """The normal formula of the table that a formula tells."""
    return formula_of(table_told(size, formula))


def formula_count(table):
    """How many formulas tell a table."""
    if not has_formula(table):
        return 0
    count = 1
    for word, _, sons in knots_in(tree_of(table)):
        count = count * told_ways(word, len(sons))
    return count


def told_ways(word, many):
    """In how many ways so many sons of a knot are set into nested triples."""
    return factorial(many) * nestings(many, 1) if word == "all" else nestings(many, 2)


def nestings(many, weight):
    """The ways to nest things that stay in their row, each counted as a weight for each of its triples."""
    # For k things: ways of one part, and of one part or more side by side.
    alone = [0, 1]
    beside = [0, 1]
    for k in range(2, many + 1):
        more = sum([alone[first] * beside[k - first] for first in range(1, k)])
        alone.append(weight * more)
        beside.append(weight * more + more)
    return alone[many]


def formula_text(size, formula):
    """The text of a formula."""
    check_formula(size, formula)
    return "()" if size == 0 else part_text(formula)


def part_text(formula):
    """The text of a thing or a triple."""
    if not is_knot(formula):
        return str(formula)
    onward, back, parts = formula
    return "(" + f" {onward}/{back} ".join([part_text(one) for one in parts]) + ")"


def parse_formula(size, value):
    """The formula of a text."""
    # What is no number, or no triple, becomes None: so the form is not that of a formula.
    formula = formula_told(size, value) if isinstance(value, str) else None
    check_formula(size, formula)
    return formula


def formula_told(size, text):
    """The nested value that a text tells; None, or one with a None in it, if it tells none."""
    if size == 0:
        return () if text == "()" else None
    # The looks and the parts that are read of the whole, and of each triple that is not closed.
    begun = [([], [])]
    words = text.split(" ")
    for k in range(len(words)):
        if k % 2 == 1:
            begun[-1][0].append(words[k])
            continue
        word = words[k].lstrip("(")
        begun.extend([([], []) for _ in range(len(words[k]) - len(word))])
        node = number_told(word.rstrip(")"), size - 1)
        for _ in range(len(word) - len(word.rstrip(")"))):
            looks, parts = begun.pop()
            if not begun:
                return None
            node = triple_told(looks, parts + [node])
        begun[-1][1].append(node)
    looks, parts = begun.pop()
    return None if begun or looks else parts[0]


def triple_told(looks, parts):
    """The triple of some parts between which looks stand; None, or one with a None in it, if they make none."""
    if len(parts) < 2 or looks.count(looks[0]) != len(looks):
        return None
    numbers = [number_told(word, MAX_LOOK) for word in looks[0].split("/")]
    return (numbers[0], numbers[1], tuple(parts)) if len(numbers) == 2 else None
