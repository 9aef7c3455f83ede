"""Plain checks of formulas, straight from the words of the document, and formulas to try them on."""

import itertools
import re

import plain


def things_in(formula):
    return [formula] if type(formula) is int else [x for one in formula[2] for x in things_in(one)]


def has_form(size, value):
    if type(value) is int:
        return 0 <= value < size
    if type(value) is not tuple or len(value) != 3 or type(value[2]) is not tuple or len(value[2]) < 2:
        return False
    return all(type(look) is int and 0 <= look <= 99 for look in value[:2]) and all(has_form(size, one) for one in value[2])


def formula_error(size, value):
    """What formula_error has to tell."""
    if size == 0:
        return None if type(value) is tuple and value == () else "form"
    if not has_form(size, value):
        return "form"
    return None if sorted(things_in(value)) == list(range(size)) else "things"


def look_told(formula, x, y):
    """How x looks on y by a formula: as the parts do in which they stand apart."""
    onward, back, parts = formula
    at, to = [next(k for k in range(len(parts)) if z in things_in(parts[k])) for z in (x, y)]
    if at == to:
        return look_told(parts[at], x, y)
    return onward if at < to else back


def table_told(size, formula):
    return plain.by(size, lambda x, y: look_told(formula, x, y))


def is_normal(formula):
    """Whether a formula is normal, by the three things that are asked of each triple."""
    if type(formula) is int or formula == ():
        return True
    onward, back, parts = formula
    if onward > back or any(type(one) is tuple and one[:2] == (onward, back) for one in parts):
        return False
    least = [min(things_in(one)) for one in parts]
    return (onward != back or least == sorted(least)) and all(is_normal(one) for one in parts)


def cuts_of(things):
    """All ways to cut a row into two parts or more."""
    for many in range(1, len(things)):
        for cuts in itertools.combinations(range(1, len(things)), many):
            ends = (0, *cuts, len(things))
            yield [things[low:high] for low, high in zip(ends, ends[1:])]


def formulas_in_row(things, pairs):
    """All formulas whose things stand in a row, with some pairs of looks."""
    if len(things) == 1:
        return list(things)
    found = []
    for cut in cuts_of(things):
        for parts in itertools.product(*[formulas_in_row(part, pairs) for part in cut]):
            found += [(onward, back, parts) for onward, back in pairs]
    return found


def all_formulas(size, looks):
    """All formulas of a size, not 0, with some looks."""
    pairs = list(itertools.product(looks, repeat=2))
    return [formula for row in itertools.permutations(range(size)) for formula in formulas_in_row(row, pairs)]


def drawn_formula(rng, things, looks=(0, 1, 2, 99)):
    """A formula of some things, in any order."""
    if len(things) == 1:
        return things[0]
    mixed = rng.sample(things, len(things))
    cuts = sorted(rng.sample(range(1, len(things)), rng.randint(1, min(3, len(things) - 1))))
    ends = (0, *cuts, len(things))
    parts = tuple(drawn_formula(rng, mixed[low:high], looks) for low, high in zip(ends, ends[1:]))
    return (rng.choice(looks), rng.choice(looks), parts)


def told_otherwise(rng, formula):
    """Another formula of the same table: triples turned about, cut up, or with alike parts mixed."""
    if type(formula) is int:
        return formula
    onward, back, parts = formula
    parts = tuple(told_otherwise(rng, one) for one in parts)
    if onward == back and rng.random() < 0.5:
        parts = tuple(rng.sample(parts, len(parts)))
    if len(parts) > 2 and rng.random() < 0.5:
        parts = ((onward, back, parts[:2]),) + parts[2:]
    return (back, onward, parts[::-1]) if rng.random() < 0.5 else (onward, back, parts)


def number(word, most):
    return int(word) if re.fullmatch("0|[1-9][0-9]?", word) and int(word) <= most else None


def formula_text(formula):
    if type(formula) is int:
        return str(formula)
    if formula == ():
        return "()"
    onward, back, parts = formula
    text = formula_text(parts[0])
    for one in parts[1:]:
        text += " " + str(onward) + "/" + str(back) + " " + formula_text(one)
    return "(" + text + ")"


def value_at(size, text, at):
    """The nested value whose text begins at a place, and where it ends; (None, at) if there is none."""
    thing = re.compile("[0-9]+").match(text, at)
    if thing:
        return number(thing.group(), size - 1), thing.end()
    if text[at:at + 1] != "(":
        return None, at
    first, at = value_at(size, text, at + 1)
    parts, looks = [first], []
    while parts[-1] is not None and text[at:at + 1] == " ":
        told = re.compile(" ([0-9]+)/([0-9]+) ").match(text, at)
        if not told:
            return None, at
        looks.append((number(told.group(1), 99), number(told.group(2), 99)))
        one, at = value_at(size, text, told.end())
        parts.append(one)
    if None in parts or not looks or len(set(looks)) != 1 or None in looks[0] or text[at:at + 1] != ")":
        return None, at
    return (*looks[0], tuple(parts)), at + 1


def parsed(size, text):
    """The formula or the error of a text."""
    if size == 0:
        return ((), None) if text == "()" else (None, "form")
    value, end = value_at(size, text, 0)
    if value is None or end != len(text):
        return None, "form"
    error = formula_error(size, value)
    return (value if error is None else None), error
