"""Papers: what shows claims, some claims being known, some shown first."""

from squarepapers.claims import is_line, stretch_of, unknowns_in
from squarepapers.columns import column_of, sign_at
from squarepapers.forms import less_of, number_form, number_of, plus_of, times_of, unknown, weighed
from squarepapers.kinds import tupled
from squarepapers.linepapers import shows_line
from squarepapers.places import turned
from squarepapers.shapes import is_made, names_known
from squarepapers.steps import told_with


def is_paper(thing):
    """Whether thing is a paper, of whatever claim."""
    return is_made(thing, "paper")


def shows(claim, thing, *, known=()):
    """Whether thing is a paper that shows the claim, these pairs of NAMEs and claims being known."""
    if not is_paper(thing):
        return False
    claims = {name: held for name, held in tupled(known)}
    waiting = [(tupled(claim), thing, ())]
    while waiting:
        asked, paper, first = waiting.pop()
        left = left_to_show(asked, paper, claims, first)
        if left is None:
            return False
        waiting.extend(left)
    return True


def leans_on(paper):
    """The rising list of the NAMEs of known in the paper."""
    return names_known(paper)


def left_to_show(claim, paper, known, first):
    """The triples (claim, paper, first) that are left to be shown of a paper, None where it doesn't show the claim."""
    word = paper[0]
    conditions, goal = claim
    if word == "cases":
        form, one, other = paper[1:]
        against = weighed(form, (-1, 1))
        return [((conditions + (form,), goal), one, first), ((conditions + (against,), goal), other, first)]
    if word == "order":
        if not all([is_same(claim, pair) for pair in neighbours(paper[1])]):
            return None
        steps = tuple([less_of(unknown(other), unknown(one)) for one, other in neighbours(paper[1])])
        return [((conditions + steps, goal), paper[2], first)]
    if word == "first":
        return [(paper[1], paper[2], first), (claim, paper[3], first + (paper[1],))]
    if word in ("line", "one"):
        return [] if shows_by_line(claim, paper) else None
    return [] if shows_by_steps(claim, paper, known, first) else None


def neighbours(names):
    """The pairs of one NAME and the next one."""
    return list(zip(names, names[1:]))


def is_same(claim, pair):
    """Whether the claim is the same with both turned about, but for its conditions' order and how often they stand."""
    one, other = pair
    turns = ((one, other), (other, one))
    conditions, goal = claim
    if turned(goal, turns) != goal:
        return False
    return {turned(condition, turns) for condition in conditions} == {condition for condition in conditions}


def shows_by_steps(claim, paper, known, first):
    """Whether a paper of a step, of a part or of never shows the claim."""
    conditions, goal = claim
    told = told_with(paper[-1], conditions, known, first)
    if told is None:
        return False
    if paper[0] == "step":
        return told == goal
    if paper[0] == "never":
        number = number_of(told)
        return number is not None and number[0] < 0
    front = told_with(paper[2], conditions, known, first)
    return front is not None and told == times_of(goal, plus_of(number_form(paper[1]), front))


def shows_by_line(claim, paper):
    """Whether a paper of a line, or of one fraction, shows the claim."""
    if not is_line(claim):
        return False
    stretch = stretch_of(claim)
    if stretch is None:
        return False
    goal = claim[1]
    if stretch[0] is None or stretch[0] != stretch[1]:
        return paper[0] == "line" and shows_line(goal, unknowns_in(claim), stretch, paper)
    return paper[0] == "one" and sign_at(column_of(goal)[1], stretch[0]) >= 0
