"""Formulas: trees of numbers, unknowns, sums, products, parts, powers and roots."""

from squarepapers.fractions import is_fraction, less, over, plus, raised, root_of, times
from squarepapers.kinds import is_name, is_number, tupled
from squarepapers.places import worths_for

TWOFOLD = ("plus", "less", "times", "over")


def is_formula(thing):
    """Whether thing is a formula."""
    if not isinstance(thing, tuple) or len(thing) < 2:
        return False
    word, one = thing[0], thing[1]
    if word in TWOFOLD:
        return len(thing) == 3 and is_formula(one) and is_formula(thing[2])
    if word == "power":
        return len(thing) == 3 and is_formula(one) and is_number(thing[2]) and 0 <= thing[2] <= 6
    if len(thing) != 2:
        return False
    if word == "number":
        return is_fraction(one)
    if word == "unknown":
        # The text of a root begins with that word, so no unknown is called so.
        return is_name(one) and one != "root"
    return word == "root" and is_formula(one)


def formulas_within(formula):
    """The formulas that the formula is straight made of."""
    if formula[0] in TWOFOLD:
        return formula[1:]
    if formula[0] in ("power", "root"):
        return formula[1:2]
    return ()


def unknowns_of(formula):
    """The rising list of its unknowns."""
    found = set()
    waiting = [formula]
    while waiting:
        part = waiting.pop()
        if part[0] == "unknown":
            found.add(part[1])
        waiting.extend(formulas_within(part))
    return sorted(found)


def worth_of(formula, place):
    """The formula's worth at the place, None where it has none; NoWorth of an unknown that it lacks."""
    # All unknowns are looked for first: NoWorth goes ahead of None.
    worths = worths_for(unknowns_of(formula), place)
    return worth_with(tupled(formula), worths)


def worth_with(formula, worths):
    """The formula's worth with these of its unknowns, None where it has none."""
    if formula[0] == "number":
        return formula[1]
    if formula[0] == "unknown":
        return worths[formula[1]]
    one = worth_with(formula[1], worths)
    if one is None:
        return None
    if formula[0] == "power":
        return raised(one, formula[2])
    if formula[0] == "root":
        return root_of(one)
    other = worth_with(formula[2], worths)
    return None if other is None else worth_of_two(formula[0], one, other)


def worth_of_two(word, one, other):
    """What the word makes of both worths, None over nought."""
    if word == "plus":
        return plus(one, other)
    if word == "less":
        return less(one, other)
    if word == "times":
        return times(one, other)
    return None if other[0] == 0 else over(one, other)
