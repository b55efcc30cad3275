"""Forms of degree 2 at most, from which squares are taken out, unknown by unknown."""

from squarepapers.errors import BadDegree
from squarepapers.forms import degree_of, less_of, names_of, number_of, plus_of, times_of, unknown, weighed
from squarepapers.fractions import less, over
from squarepapers.kinds import tupled
from squarepapers.places import by_powers, worth_at


def refuse_degree(form):
    """Refuses a form of a degree above 2."""
    degree = degree_of(form)
    if degree > 2:
        raise BadDegree(degree)


def completed(form):
    """The squares taken out of the form, its rest, and the unknown at which that ended.

    The squares are triples (weight, line, name), weights above nought; each line is
    its name's unknown and unknowns behind that one. The form is their sum and the
    rest. The unknown is None where the rest is a number; else the rest falls without
    end in it, other unknowns chosen fit.
    """
    squares = []
    rest = tupled(form)
    for name in names_of(form):
        forms = by_powers(rest, name)
        if len(forms) < 2:
            continue
        weight = number_of(forms[2]) if len(forms) == 3 else (0, 1)
        if weight[0] <= 0:
            return (squares, rest, name)
        half = weighed(forms[1], over((1, 2), weight))
        squares.append((weight, plus_of(unknown(name), half), name))
        rest = less_of(forms[0], weighed(times_of(half, half), weight))
    return (squares, rest, None)


def place_on(squares, names, chosen):
    """The place of names at which all squares are nought, as chosen or nought where they leave that free."""
    worths = {name: chosen.get(name, (0, 1)) for name in names}
    for weight, line, name in reversed(squares):
        # Where its own unknown is nought, a line is what that has to take away.
        worths[name] = (0, 1)
        worths[name] = less((0, 1), worth_at(line, tuple(worths.items())))
    return tuple(worths.items())


def way_between(one, other):
    """The way from the one place to the other one, of the same unknowns."""
    return tuple([(name, less(end, start)) for (name, start), (held, end) in zip(one, other)])
