"""The least worths of forms of degree 2 at most, or ways along which worths fall."""

from squarepapers.completing import completed, place_on, refuse_degree, way_between
from squarepapers.forms import names_of, number_form, number_of, plus_of, unknown, weighed
from squarepapers.fractions import is_fraction
from squarepapers.places import by_powers, is_place_of, put_in, worth_at


def floor_of(form):
    """("least", fraction, place), or ("falls", place, way) where worths come below each number."""
    refuse_degree(form)
    names = names_of(form)
    squares, rest, name = completed(form)
    if name is None:
        return ("least", number_of(rest), place_on(squares, names, {}))
    chosen, step = falling(by_powers(rest, name))
    start = place_on(squares, names, chosen)
    return ("falls", start, way_between(start, place_on(squares, names, {**chosen, name: step})))


def falling(forms):
    """What to choose of other unknowns, and how an unknown steps, so that these forms times its powers fall."""
    if len(forms) == 3:
        return ({}, (1, 1))
    slope = forms[1]
    # Where all unknowns are nought, a slope without a number is nought, too.
    chosen = {} if slope[0][0] == () else {names_of(slope)[0]: (1, 1)}
    # Of one unknown at 1, or none, the slope's first term is its worth.
    return (chosen, (1, 1) if slope[0][1][0] < 0 else (-1, 1))


def falls_along(form, place, way):
    """Whether the worths, of place moved along way by 0, 1, 2, .., come below each number."""
    steps = [put_together(start, by) for start, by in zip(place, way)]
    moving = put_in(form, tuple(steps))
    return names_of(moving) != [] and moving[-1][1][0] < 0


def put_together(start, by):
    """The pair of the unknown and the form of where it is behind so many steps."""
    (name, first), (held, step) = start, by
    return (name, plus_of(number_form(first), weighed(unknown("many"), step)))


def shows_floor(form, thing):
    """Whether thing is what floor_of may tell of the form."""
    told = floor_of(form)
    if not isinstance(thing, tuple) or len(thing) != 3 or thing[0] != told[0]:
        return False
    names = names_of(form)
    if not is_place_of(thing[2], names):
        return False
    if told[0] == "least":
        return is_fraction(thing[1]) and thing[1] == told[1] == worth_at(form, thing[2])
    return is_place_of(thing[1], names) and falls_along(form, thing[1], thing[2])
