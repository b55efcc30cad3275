"""How steps and papers are made: their words, and what stands behind each.

Steps and papers may stand deeper in one another than calls may be nested; so what
goes through them here keeps lists of what is still to be done.
"""

from squarepapers.claims import is_claim
from squarepapers.forms import is_form
from squarepapers.fractions import is_fraction
from squarepapers.kinds import are_named, is_name, is_number

STEP_WORDS = ("number", "square", "given", "sum", "times", "put", "known", "use")
# What stands behind each word, of steps and of papers.
SHAPES = {
    "number": ("floor",),
    "square": ("form",),
    "given": ("index",),
    "sum": ("step", "step"),
    "times": ("step", "step"),
    "put": ("pairs", "step"),
    "known": ("name", "steps"),
    "use": ("index", "steps"),
    "step": ("step",),
    "part": ("above", "step", "step"),
    "never": ("step",),
    "cases": ("form", "paper", "paper"),
    "order": ("names", "paper"),
    "first": ("claim", "paper", "paper"),
    "line": ("form", "form", "rows", "fraction"),
    "one": (),
}


def has_shape(thing, kind):
    """Whether thing has a word of that kind, step or paper, and as much behind it as that word takes."""
    if not isinstance(thing, tuple) or not thing or not isinstance(thing[0], str) or thing[0] not in SHAPES:
        return False
    if (thing[0] in STEP_WORDS) != (kind == "step"):
        return False
    return len(thing) == len(SHAPES[thing[0]]) + 1


def is_above(thing):
    """Whether thing is a fraction above nought."""
    return is_fraction(thing) and thing[0] > 0


def is_chain_row(thing):
    """Whether thing is a triple (quotient, weight, next) of a chain."""
    if not isinstance(thing, tuple) or len(thing) != 3:
        return False
    return is_form(thing[0]) and is_above(thing[1]) and is_form(thing[2])


def are_unlike_names(thing):
    """Whether thing is a tuple of two or more NAMEs, no two alike."""
    if not isinstance(thing, tuple) or len(thing) < 2 or not all([is_name(name) for name in thing]):
        return False
    return len({name for name in thing}) == len(thing)


def is_kind(thing, kind):
    """Whether thing is of that kind, other than steps and papers."""
    if kind == "form":
        return is_form(thing)
    if kind == "fraction":
        return is_fraction(thing)
    if kind == "above":
        return is_above(thing)
    if kind == "floor":
        return is_fraction(thing) and thing[0] >= 0
    if kind == "index":
        return is_number(thing) and thing >= 0
    if kind == "name":
        return is_name(thing)
    if kind == "names":
        return are_unlike_names(thing)
    if kind == "pairs":
        return are_named(thing, is_form)
    if kind == "claim":
        return is_claim(thing)
    return isinstance(thing, tuple) and all([is_chain_row(row) for row in thing])


def is_made(thing, kind):
    """Whether thing is a step, or a paper, as kind says."""
    waiting = [(kind, thing)]
    while waiting:
        due, held = waiting.pop()
        if due in ("step", "paper"):
            if not has_shape(held, due):
                return False
            waiting.extend([(each, part) for each, part in zip(SHAPES[held[0]], held[1:])])
        elif due == "steps":
            if not isinstance(held, tuple):
                return False
            waiting.extend([("step", part) for part in held])
        elif not is_kind(held, due):
            return False
    return True


def within(part):
    """The steps and papers that a step or paper is straight made of, in order."""
    found = []
    for kind, held in zip(SHAPES[part[0]], part[1:]):
        if kind in ("step", "paper"):
            found.append(held)
        elif kind == "steps":
            found.extend(held)
    return found


def unrolled(whole):
    """All steps and papers in one, it too, each ahead of those within: triples (part, start, end).

    Those within a part stand one behind the other, from start up to end.
    """
    parts = [whole]
    spans = []
    while len(spans) < len(parts):
        part = parts[len(spans)]
        inner = within(part)
        spans.append((part, len(parts), len(parts) + len(inner)))
        parts.extend(inner)
    return spans


def with_within(part, inner):
    """The part with these steps and papers, as many and in order, in the place of those within."""
    held = []
    at = 0
    for kind, old in zip(SHAPES[part[0]], part[1:]):
        if kind in ("step", "paper"):
            held.append(inner[at])
            at += 1
        elif kind == "steps":
            held.append(tuple(inner[at:at + len(old)]))
            at += len(old)
        else:
            held.append(old)
    return (part[0], *held)


def remade(whole, change):
    """The step or paper with each part in it changed, where change leaves alone what's within the part."""
    spans = unrolled(whole)
    made = [part for part, start, end in spans]
    for at in reversed(range(len(spans))):
        part, start, end = spans[at]
        made[at] = with_within(change(part), made[start:end])
    return made[0]


def names_known(whole):
    """The rising list of the NAMEs of known in a step or paper."""
    return sorted({part[1] for part, start, end in unrolled(whole) if part[0] == "known"})
