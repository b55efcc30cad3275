"""What deeds make of a book's rows.

Rows are a dict: by each NAME the triple (claim, state, what), what its paper, its place
or None. A deed makes new ones and leaves those that were, so that a book can go back.
Each tells the pair of the new rows and what the deed tells.
"""

from squarepapers.claims import fails_at
from squarepapers.errors import BadPaper, BadPlace, Known, NoClaim, NotShown, NoWorth, Ring, Settled
from squarepapers.papers import leans_on, shows
from squarepapers.seeking import seek


def row_of(rows, name):
    """The triple of that NAME; NoClaim where there's none."""
    if name not in rows:
        raise NoClaim(name)
    return rows[name]


def leans_of(rows, name):
    """The rising list of the NAMEs on which its paper leans."""
    claim, state, what = rows[name]
    return leans_on(what) if state == "shown" else []


def reached_from(rows, names):
    """The rising list of these NAMEs, and those on which they lean, straight or through others."""
    found = list(names)
    at = 0
    while at < len(found):
        if found[at] in rows:
            found.extend([other for other in leans_of(rows, found[at]) if other not in found])
        at += 1
    return sorted(found)


def leaning_on(rows, name):
    """The rising list of the NAMEs that lean on it, straight or through others."""
    return sorted([other for other in rows if name in reached_from(rows, leans_of(rows, other))])


def in_order(rows, names):
    """The NAMEs, each behind all of them on which it leans."""
    placed = []
    while len(placed) < len(names):
        ready = [name for name in names if name not in placed and not left_out(rows, name, placed)]
        placed.extend(ready)
    return placed


def left_out(rows, name, placed):
    """The NAMEs on which it leans that aren't placed."""
    return [other for other in leans_of(rows, name) if other not in placed]


def opened(rows, name):
    """The rows where all that lean on that NAME are open."""
    leaning = leaning_on(rows, name)
    return {other: (row[0], "open", None) if other in leaning else row for other, row in rows.items()}


def say_in(rows, name, claim):
    """A new claim, open."""
    if name in rows:
        raise Known(name)
    return ({**rows, name: (claim, "open", None)}, None)


def show_in(rows, name, paper):
    """It's shown by that paper."""
    claim, state, what = row_of(rows, name)
    if state == "failed":
        raise Settled(name)
    leans = leans_on(paper)
    if name in reached_from(rows, leans):
        raise Ring(name)
    for other in leans:
        if other not in rows or rows[other][1] != "shown":
            raise NotShown(other)
    if not shows(claim, paper, known=tuple([(other, rows[other][0]) for other in leans])):
        raise BadPaper(name)
    return ({**rows, name: (claim, "shown", paper)}, None)


def fail_in(rows, name, place):
    """It's failed by that place."""
    claim = row_of(rows, name)[0]
    try:
        fails = fails_at(claim, place)
    except NoWorth:
        fails = False
    if not fails:
        raise BadPlace(name)
    return ({**rows, name: (claim, "failed", place)}, None)


def find_in(rows, name):
    """By the search it's shown, failed or still open: that word."""
    claim, state, what = row_of(rows, name)
    if state != "open":
        return (rows, state)
    told = seek(claim)
    if told is None:
        return (rows, "open")
    word = "shown" if told[0] == "shown" else "failed"
    return ({**rows, name: (claim, word, told[1])}, word)


def change_in(rows, name, claim):
    """Another claim by that NAME; it, and all that lean on it, are open."""
    row_of(rows, name)
    left = opened(rows, name)
    return ({**left, name: (claim, "open", None)}, None)


def drop_in(rows, name):
    """It's gone; all that lean on it are open."""
    row_of(rows, name)
    left = opened(rows, name)
    return ({other: left[other] for other in left if other != name}, None)


DEEDS = {"say": say_in, "show": show_in, "fail": fail_in, "find": find_in, "change": change_in, "drop": drop_in}


def done(rows, word, handed):
    """What the deed of that word, handed that, makes of the rows, and tells."""
    action = DEEDS[word]
    return action(rows, *handed)
