"""What is made of papers: turned about, summed, joined."""

from squarepapers.errors import NotAhead
from squarepapers.kinds import tupled
from squarepapers.papers import leans_on
from squarepapers.places import turned
from squarepapers.shapes import SHAPES, remade


def turned_claim(claim, pairs):
    """The claim with the pairs' second NAMEs in their first ones' places."""
    conditions, goal = claim
    return (tuple([turned(condition, pairs) for condition in conditions]), turned(goal, pairs))


def turned_paper(paper, pairs):
    """The paper, which leans on nothing, turned likewise."""
    turns = tupled(pairs)
    return remade(tupled(paper), lambda part: turned_part(part, turns))


def turned_part(part, pairs):
    """The step or paper turned, but not those within."""
    held = [turned_kind(kind, old, pairs) for kind, old in zip(SHAPES[part[0]], part[1:])]
    return (part[0], *held)


def turned_kind(kind, thing, pairs):
    """What stands behind a word, turned where it's of a kind that has unknowns."""
    turns = {old: new for old, new in pairs}
    if kind == "form":
        return turned(thing, pairs)
    if kind == "claim":
        return turned_claim(thing, pairs)
    if kind == "names":
        return tuple([turns.get(name, name) for name in thing])
    if kind == "pairs":
        # The NAMEs turned need not stand in the old order.
        return tuple(sorted([(turns.get(name, name), turned(form, pairs)) for name, form in thing]))
    if kind == "rows":
        return tuple([(turned(quotient, pairs), weight, turned(last, pairs)) for quotient, weight, last in thing])
    return thing


def summed(one, other):
    """The paper of the sum of two papers' steps, None where one of them isn't of a step."""
    front, back = tupled(one), tupled(other)
    if front[0] != "step" or back[0] != "step":
        return None
    return ("step", ("sum", front[1], back[1]))


def joined(papers):
    """A paper of the last claim that leans on nothing, of triples (NAME, claim, paper); NotAhead as ahead of it."""
    triples = tupled(papers)
    for at, (name, claim, paper) in enumerate(triples):
        ahead = [held[0] for held in triples[:at]]
        if not all([other in ahead for other in leans_on(paper)]):
            raise NotAhead(name)
    kept = leaned_on(triples)
    names = [name for name, claim, paper in kept]
    whole = loosened(kept[-1][2], names[:-1])
    for at in reversed(range(len(kept) - 1)):
        whole = ("first", kept[at][1], loosened(kept[at][2], names[:at]), whole)
    return whole


def leaned_on(triples):
    """The last triple, and ahead of it those on which it leans, straight or through others, in order."""
    kept = []
    wanted = [triples[-1][0]]
    for name, claim, paper in reversed(triples):
        if name in wanted:
            kept.append((name, claim, paper))
            wanted.extend(leans_on(paper))
    return kept[::-1]


def loosened(paper, names):
    """The paper with uses of claims that are shown first, by their places in names, for those that are known."""
    return remade(paper, lambda part: loosened_part(part, names))


def loosened_part(part, names):
    """The step or paper loosened, but not those within."""
    if part[0] == "known":
        return ("use", names.index(part[1]), part[2])
    if part[0] == "use":
        # Its own ones come behind all that are shown first now.
        return ("use", part[1] + len(names), part[2])
    return part
