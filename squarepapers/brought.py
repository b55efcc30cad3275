"""What formulas with parts and roots are brought to: claims over forms."""

from squarepapers.forms import less_of, number_form, plus_of, power_of, times_of, unknown
from squarepapers.formulas import formulas_within, worth_of
from squarepapers.kinds import tupled

LETTERS = "abcdefghijklmnopqrstuvwxyz"


def root_name(number):
    """The new unknown for the root of that number: qa, qb, .., and rising ones behind qz."""
    rounds, at = divmod(number, len(LETTERS))
    return "q" + "z" * rounds + LETTERS[at]


def inner_first(formula):
    """The formulas in the formula, it too: inner ones ahead, one's ahead of other's."""
    found = []
    for part in formulas_within(formula):
        found.extend(inner_first(part))
    found.append(formula)
    return found


def roots_in(formulas):
    """The roots in the formulas, each tree once, in the order in which they're come to."""
    roots = []
    for formula in formulas:
        for part in inner_first(formula):
            if part[0] == "root" and part not in roots:
                roots.append(part)
    return roots


def parts_with(formula, roots):
    """The formula's parts, where the new unknowns stand for these roots, in order."""
    word = formula[0]
    one = number_form((1, 1))
    if word == "number":
        return (number_form(formula[1]), one)
    if word == "unknown":
        return (unknown(formula[1]), one)
    if word == "root":
        return (unknown(root_name(roots.index(formula))), one)
    a, b = parts_with(formula[1], roots)
    if word == "power":
        return (power_of(a, formula[2]), power_of(b, formula[2]))
    return parts_of_two(word, (a, b), parts_with(formula[2], roots))


def parts_of_two(word, one, other):
    """What the word makes of both's parts; nothing is shortened."""
    (a, b), (c, d) = one, other
    if word == "times":
        return (times_of(a, c), times_of(b, d))
    if word == "over":
        return (times_of(a, d), times_of(b, c))
    front, back = times_of(a, d), times_of(c, b)
    top = plus_of(front, back) if word == "plus" else less_of(front, back)
    return (top, times_of(b, d))


def splits_with(formula, roots):
    """The tops by which the formula parts, as often as they stand."""
    return [parts_with(part[2], roots)[0] for part in inner_first(formula) if part[0] == "over"]


def goal_with(formula, roots):
    """The form whose worths have the signs of the formula's worths."""
    top, bottom = parts_with(formula, roots)
    goal = times_of(top, bottom)
    for split in splits_with(formula, roots):
        goal = times_of(times_of(goal, split), split)
    return goal


def root_conditions(roots):
    """The conditions that bind the new unknowns to these roots, three for each."""
    conditions = []
    for at, root in enumerate(roots):
        new = unknown(root_name(at))
        a, b = parts_with(root[1], roots)
        square, worth = power_of(times_of(new, b), 2), times_of(a, b)
        conditions.extend([new, less_of(square, worth), less_of(worth, square)])
    return tuple(conditions)


def parts_of(formula):
    """The pair (top, bottom) of forms that the formula is parted into."""
    whole = tupled(formula)
    return parts_with(whole, roots_in([whole]))


def splits_of(formula):
    """The list of the tops of all that something in the formula is over."""
    whole = tupled(formula)
    return splits_with(whole, roots_in([whole]))


def brought(formula):
    """The claim that fails at just the places, its roots' fractions beside, where the formula is below nought."""
    whole = tupled(formula)
    roots = roots_in([whole])
    return (root_conditions(roots), goal_with(whole, roots))


def lifted(formula, place):
    """The place with the new unknowns' fractions beside, None where the formula has no worth."""
    if worth_of(formula, place) is None:
        return None
    roots = roots_in([tupled(formula)])
    new = [(root_name(at), worth_of(root, place)) for at, root in enumerate(roots)]
    return tuple(sorted(list(tupled(place)) + new))
