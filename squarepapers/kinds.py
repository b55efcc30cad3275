"""What numbers, NAMEs and pairs are, and tuples made of lists."""


def is_number(thing):
    """Whether thing is a whole number; True and False are none."""
    return isinstance(thing, int) and not isinstance(thing, bool)


def is_name(thing):
    """Whether thing is a NAME: one to eight letters a to z."""
    if not isinstance(thing, str) or not 1 <= len(thing) <= 8:
        return False
    return all(["a" <= sign <= "z" for sign in thing])


def is_pair(thing):
    """Whether thing is a tuple of two."""
    return isinstance(thing, tuple) and len(thing) == 2


def rises(things):
    """Whether each of things is above the one ahead."""
    return all([one < other for one, other in zip(things, things[1:])])


def are_named(thing, fits):
    """Whether thing is a tuple of pairs of a NAME and what fits, NAMEs rising."""
    if not isinstance(thing, tuple):
        return False
    if not all([is_pair(pair) and is_name(pair[0]) and fits(pair[1]) for pair in thing]):
        return False
    return rises([name for name, held in thing])


def tupled(thing):
    """The thing with a tuple for each list in it, however deep."""
    # Papers may be deeper than calls may be nested: so all parts stand in one list, inner ones behind.
    parts = [thing]
    spans = []
    at = 0
    while at < len(parts):
        part = parts[at]
        if isinstance(part, (list, tuple)):
            spans.append((at, len(parts), len(parts) + len(part)))
            parts.extend(part)
        at += 1
    for at, start, end in reversed(spans):
        parts[at] = tuple(parts[start:end])
    return parts[0]


def sort_of(thing):
    """A word for what == doesn't tell apart: lists, tuples, True and False, and the rest."""
    if isinstance(thing, bool):
        return "truth"
    if isinstance(thing, list):
        return "list"
    return "tuple" if isinstance(thing, tuple) else "plain"


def are_alike(one, other):
    """Whether both are the same, lists not for tuples, nor True and False for numbers, however deep."""
    waiting = [(one, other)]
    while waiting:
        front, back = waiting.pop()
        if sort_of(front) != sort_of(back):
            return False
        if isinstance(front, (list, tuple)):
            if len(front) != len(back):
                return False
            waiting.extend([pair for pair in zip(front, back)])
        elif front != back:
            return False
    return True
