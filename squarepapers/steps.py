"""Steps: what tells forms that are never below nought where what is given isn't."""

from squarepapers.forms import number_form, plus_of, times_of
from squarepapers.kinds import tupled
from squarepapers.places import put_in
from squarepapers.shapes import is_made, unrolled


def is_step(thing):
    """Whether thing is a step."""
    return is_made(thing, "step")


def told_by(step, given, *, known=(), first=()):
    """The form that a step tells of what is given, known and shown first; None where it tells none."""
    claims = {name: claim for name, claim in tupled(known)}
    return told_with(tupled(step), tupled(given), claims, tupled(first))


def told_with(step, given, known, first):
    """As told_by, of tuples, known a dict of claims by NAMEs."""
    spans = unrolled(step)
    # Behind a put nothing is given, however deep.
    bare = [False for span in spans]
    for at, (part, start, end) in enumerate(spans):
        for inner in range(start, end):
            bare[inner] = bare[at] or part[0] == "put"
    told = [None for span in spans]
    for at in reversed(range(len(spans))):
        part, start, end = spans[at]
        inner = told[start:end]
        if None in inner:
            return None
        told[at] = told_of(part, inner, () if bare[at] else given, (known, first))
        if told[at] is None:
            return None
    return told[0]


def told_of(part, inner, given, shown):
    """What one step tells, where those within tell inner."""
    word = part[0]
    if word == "number":
        return number_form(part[1]) if part[1][0] >= 0 else None
    if word == "square":
        return times_of(part[1], part[1])
    if word == "given":
        return nth(given, part[1])
    if word == "sum":
        return plus_of(inner[0], inner[1])
    if word == "times":
        return times_of(inner[0], inner[1])
    if word == "put":
        return put_in(inner[0], part[1])
    known, first = shown
    claim = known.get(part[1], None) if word == "known" else nth(first, part[1])
    # Each condition must be told just so, in order.
    return claim[1] if claim is not None and list(claim[0]) == inner else None


def nth(things, number):
    """The thing of that number, None where there are not so many."""
    return things[number] if 0 <= number < len(things) else None
