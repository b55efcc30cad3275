"""Forms of degree 2 at most as weighed sums of squares."""

from squarepapers.completing import completed
from squarepapers.floors import floor_of
from squarepapers.forms import is_form, number_form, sum_of, times_of, weighed
from squarepapers.fractions import is_fraction
from squarepapers.kinds import is_pair, tupled
from squarepapers.places import moved, worth_at


def squares_of(form):
    """("squares", rows) whose squares sum to the form, or ("fails", place) where it's below nought."""
    floor = floor_of(form)
    if floor[0] == "falls":
        return ("fails", place_below(form, floor[1], floor[2]))
    least = floor[1]
    if least[0] < 0:
        return ("fails", floor[2])
    rows = [(weight, line) for weight, line, name in completed(form)[0]]
    if least[0] > 0:
        rows.append((least, number_form((1, 1))))
    return ("squares", rows)


def place_below(form, place, way):
    """A place along the way, on which the form's worths fall, with a worth below nought."""
    many = 1
    while worth_at(form, moved(place, way, (many, 1)))[0] >= 0:
        many = many * 2
    return moved(place, way, (many, 1))


def is_row(thing):
    """Whether thing is a pair of a weight above nought and a form."""
    return is_pair(thing) and is_fraction(thing[0]) and thing[0][0] > 0 and is_form(thing[1])


def shows_squares(form, thing):
    """Whether thing is a list of weighed forms whose squares sum to the form."""
    if not isinstance(thing, list) or not all([is_row(row) for row in thing]):
        return False
    terms = []
    for weight, line in thing:
        terms.extend(weighed(times_of(line, line), weight))
    return sum_of(terms) == tupled(form)
