"""The search: a few ways to find a paper of a claim, or a place at which it fails."""

from squarepapers.claims import fails_at, is_line, line_of, never_held, unknowns_in
from squarepapers.forms import degree_of, less_of, number_of, weighed
from squarepapers.fractions import over
from squarepapers.kinds import tupled
from squarepapers.squares import squares_of
from squarepapers.words import TRIES


def seek(claim):
    """("shown", paper), ("fails", place), or None, by the first way that tells it."""
    whole = tupled(claim)
    conditions, goal = whole
    never = never_held(conditions)
    if never is not None:
        return ("shown", ("never", ("given", never)))
    if not conditions and degree_of(goal) <= 2:
        return by_squares(goal)
    if is_line(whole):
        return line_of(whole)
    if is_even(goal):
        return ("shown", ("step", squares_step([(worth, root_term(powers)) for powers, worth in goal])))
    step = condition_step(conditions, goal)
    if step is not None:
        return ("shown", ("step", step))
    place = tried(whole)
    return None if place is None else ("fails", place)


def by_squares(goal):
    """What squares_of tells of a goal without conditions, as seek tells it."""
    word, what = squares_of(goal)
    return ("shown", ("step", squares_step(what))) if word == "squares" else ("fails", what)


def squares_step(rows):
    """The step that tells the sum of all weights times squares."""
    step = ("number", (0, 1))
    for at, (weight, form) in enumerate(rows):
        part = ("times", ("number", weight), ("square", form))
        step = ("sum", step, part) if at > 0 else part
    return step


def is_even(form):
    """Whether each power in the form is even, each fraction above nought."""
    return all([worth[0] > 0 and all([power % 2 == 0 for name, power in powers]) for powers, worth in form])


def root_term(powers):
    """The form whose square is the product of these even powers."""
    return ((tuple([(name, power // 2) for name, power in powers]), (1, 1)),)


def condition_step(conditions, goal):
    """The step that tells a goal that is a condition so many times, and a number more; None without one."""
    for at, condition in enumerate(conditions):
        # Terms rise: those of unknowns are behind the number.
        if not goal or not condition or goal[-1][0] != condition[-1][0]:
            continue
        many = over(goal[-1][1], condition[-1][1])
        rest = number_of(less_of(goal, weighed(condition, many)))
        if many[0] > 0 and rest is not None and rest[0] >= 0:
            return ("sum", ("times", ("number", many), ("given", at)), ("number", rest))
    return None


def tried(claim):
    """The first place of TRIES at which a claim of three unknowns at most fails, None without one."""
    names = unknowns_in(claim)
    if len(names) > 3:
        return None
    places = [()]
    for name in names:
        places = [place + ((name, worth),) for place in places for worth in TRIES]
    for place in places:
        if fails_at(claim, place):
            return place
    return None
