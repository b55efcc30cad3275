"""Places, where fractions stand for unknowns, and what is put for unknowns."""

from squarepapers.errors import NoWorth
from squarepapers.forms import names_of, number_form, powers_of, sum_of, times_of
from squarepapers.fractions import is_fraction, plus, raised, times
from squarepapers.kinds import are_named, tupled


def is_place(thing):
    """Whether thing is a place."""
    return are_named(thing, is_fraction)


def is_place_of(thing, names):
    """Whether thing is a place of just these unknowns, a rising list."""
    return is_place(thing) and [name for name, worth in thing] == names


def worths_for(names, place):
    """The place's fractions by NAMEs; NoWorth of the first of names that it lacks."""
    worths = {name: tupled(worth) for name, worth in place}
    for name in names:
        if name not in worths:
            raise NoWorth(name)
    return worths


def worth_at(form, place):
    """The form's worth at the place; NoWorth of the first unknown that it lacks."""
    worths = worths_for(names_of(form), place)
    total = (0, 1)
    for powers, weight in form:
        part = weight
        for name, power in powers:
            part = times(part, raised(worths[name], power))
        total = plus(total, part)
    return total


def powers_up_to(form, most):
    """The list of the form's powers, from power 0 to the last one."""
    powers = [number_form((1, 1))]
    for _ in range(most):
        powers.append(times_of(powers[-1], form))
    return powers


def greatest_power(form, name):
    """The greatest power of that unknown in the form."""
    return max([power for powers, worth in form for held, power in powers if held == name], default=0)


def put_in(form, pairs):
    """The form with the pairs' forms in their unknowns' places, all at once."""
    tables = {name: powers_up_to(inner, greatest_power(form, name)) for name, inner in pairs}
    terms = []
    for powers, worth in tupled(form):
        staying = tuple([pair for pair in powers if pair[0] not in tables])
        product = ((staying, worth),)
        for name, power in powers:
            if name in tables:
                product = times_of(product, tables[name][power])
        terms.extend(product)
    return sum_of(terms)


def turned(form, pairs):
    """The form with the pairs' second NAMEs in their first ones' places, all at once."""
    turns = {old: new for old, new in pairs}
    terms = []
    for powers, worth in form:
        terms.append((powers_of([(turns.get(name, name), power) for name, power in powers]), worth))
    return sum_of(terms)


def by_powers(form, name):
    """The forms that the unknown's powers 0, 1, 2, .. are times in the form, up to the last one."""
    rows = {}
    for powers, worth in tupled(form):
        power = greatest_power(((powers, worth),), name)
        rest = tuple([pair for pair in powers if pair[0] != name])
        rows.setdefault(power, []).append((rest, worth))
    return [sum_of(rows.get(power, [])) for power in range(max(list(rows), default=-1) + 1)]


def moved(place, way, fraction):
    """The place moved along the way, that fraction times."""
    steps = {name: step for name, step in way}
    return tuple([(name, plus(worth, times(fraction, steps.get(name, (0, 1))))) for name, worth in place])
