"""Where forms of degree 2 at most that are never below nought are nought."""

from squarepapers.completing import completed, place_on, way_between
from squarepapers.errors import Fails
from squarepapers.forms import names_of
from squarepapers.fractions import less, over, times
from squarepapers.kinds import is_pair
from squarepapers.places import is_place_of, moved, worth_at
from squarepapers.squares import squares_of


def noughts_of(form):
    """(place, ways) of all places where the form is nought, None where it's nowhere; Fails where it's below."""
    told = squares_of(form)
    if told[0] == "fails":
        raise Fails(told[1])
    names = names_of(form)
    squares, rest, ended = completed(form)
    if rest:
        return None
    bound = [name for weight, line, name in squares]
    place = place_on(squares, names, {})
    ends = [place_on(squares, names, {name: (1, 1)}) for name in names if name not in bound]
    return (place, [way_between(place, end) for end in ends])


def are_independent(ways):
    """Whether no way is made of others, each so many times."""
    rows = [[step for name, step in way] for way in ways]
    while rows:
        first = rows[0]
        filled = [at for at, step in enumerate(first) if step[0] != 0]
        if not filled:
            return False
        rows = [cleared(row, first, filled[0]) for row in rows[1:]]
    return True


def cleared(row, first, at):
    """The row without so many times the first one that it's nought there."""
    many = over(row[at], first[at])
    return [less(step, times(many, other)) for step, other in zip(row, first)]


def shows_noughts(form, thing):
    """Whether thing is what noughts_of may tell of the form."""
    told = noughts_of(form)
    if told is None or thing is None:
        return told is None and thing is None
    if not is_pair(thing) or not isinstance(thing[1], list) or len(thing[1]) != len(told[1]):
        return False
    place, ways = thing
    names = names_of(form)
    if not all([is_place_of(part, names) for part in [place] + ways]):
        return False
    # Where it's nought is a point, a line, a plane: with two of its places it has the way between.
    reached = [place] + [moved(place, way, (1, 1)) for way in ways]
    return are_independent(ways) and all([worth_at(form, end)[0] == 0 for end in reached])
