"""Claims: that a goal is nowhere below nought where no condition is; lines, those of one unknown."""

from squarepapers.brought import goal_with, root_conditions, roots_in
from squarepapers.chains import roots_between
from squarepapers.columns import column_of, sign_at
from squarepapers.errors import BadDegree, BadUnknowns, Fails, NoParts
from squarepapers.forms import degree_of, is_form, less_of, names_of, number_form, number_of, times_of, unknown
from squarepapers.fractions import compared, less, lowest, plus, sign_of
from squarepapers.kinds import is_pair, tupled
from squarepapers.linepapers import is_amid, line_paper
from squarepapers.lines import lead_of
from squarepapers.places import worth_at, worths_for
from squarepapers.roots import between, parted
from squarepapers.words import WIDTH

MOST_CONDITIONS = 30


def is_claim(thing):
    """Whether thing is a claim."""
    if not is_pair(thing) or not isinstance(thing[0], tuple) or len(thing[0]) > MOST_CONDITIONS:
        return False
    return is_form(thing[1]) and all([is_form(condition) for condition in thing[0]])


def fails_at(claim, place):
    """Whether no condition's worth is below nought at the place, and the goal's is; NoWorth as of forms."""
    # All unknowns are looked for first, wherever they stand.
    worths_for(unknowns_in(claim), place)
    conditions, goal = claim
    if worth_at(goal, place)[0] >= 0:
        return False
    return all([worth_at(condition, place)[0] >= 0 for condition in conditions])


def unknowns_in(claim):
    """The rising list of the unknowns of the goal and the conditions."""
    conditions, goal = claim
    return sorted({name for form in [goal, *conditions] for name in names_of(form)})


def claim_of(formula, *, under=()):
    """The claim that the formula isn't below nought where none of those under is."""
    whole, ahead = tupled(formula), tupled(under)
    roots = roots_in([*ahead, whole])
    conditions = root_conditions(roots) + tuple([goal_with(each, roots) for each in ahead])
    return (conditions, goal_with(whole, roots))


def condition_degree(claim):
    """The greatest degree of a condition, 0 without one."""
    return max([degree_of(condition) for condition in claim[0]], default=0)


def is_line(claim):
    """Whether the claim is a line."""
    return len(unknowns_in(claim)) < 2 and condition_degree(claim) < 2


def refuse_no_line(claim):
    """Refuses a claim that isn't a line."""
    names = unknowns_in(claim)
    if len(names) > 1:
        raise BadUnknowns(names)
    degree = condition_degree(claim)
    if degree > 1:
        raise BadDegree(degree)


def never_held(conditions):
    """The number of the first condition that is a number below nought, None without one."""
    for at, condition in enumerate(conditions):
        number = number_of(condition)
        if number is not None and number[0] < 0:
            return at
    return None


def tightest(conditions, side):
    """The end that binds most, from below where side is 1, above where it's -1, and its condition's number."""
    best = None
    for at, condition in enumerate(conditions):
        column = column_of(condition)[1]
        if len(column) < 2 or sign_of((column[1], 1)) != side:
            continue
        end = lowest(-column[0], column[1])
        if best is None or compared(end, best[0]) == side:
            best = (end, at)
    return best


def stretch_of(claim):
    """The pair of a line's least and greatest fraction at which its conditions hold, None where there's no such one."""
    refuse_no_line(claim)
    conditions = claim[0]
    if never_held(conditions) is not None:
        return None
    low, high = tightest(conditions, 1), tightest(conditions, -1)
    if low is not None and high is not None and compared(low[0], high[0]) > 0:
        return None
    return (None if low is None else low[0], None if high is None else high[0])


def never_step(conditions):
    """A step that tells a number below nought of conditions that never hold together."""
    at = never_held(conditions)
    if at is not None:
        return ("given", at)
    # Each one so many times as the other one rises or falls: the unknown is gone.
    numbers = [tightest(conditions, side)[1] for side in (1, -1)]
    rise, fall = [lead_of(conditions[number]) for number in numbers]
    return (
        "sum",
        ("times", ("number", less((0, 1), fall)), ("given", numbers[0])),
        ("times", ("number", rise), ("given", numbers[1])),
    )


def samples_in(claim, stretch):
    """Fractions of the stretch, one at least, such that the goal is below nought at one of them or nowhere there."""
    low, high = stretch
    if low is not None and low == high:
        return [low]
    # The ends are made roots too, so that each gap between roots lies within the stretch or outside.
    marked = claim[1] if claim[1] else number_form((1, 1))
    for end in stretch:
        if end is not None:
            marked = times_of(marked, less_of(unknown(unknowns_in(claim)[0]), number_form(end)))
    return [point for point in gaps_of(parted(marked)) if is_amid(point, low, high)]


def gaps_of(pairs):
    """A fraction below all roots, one between each two neighbours, and one above all, of rising pairs."""
    if not pairs:
        return [(0, 1)]
    amid = [between(one[1], other[0]) for one, other in zip(pairs, pairs[1:])]
    return [less(pairs[0][0], (1, 1)), *amid, plus(pairs[-1][1], (1, 1))]


def line_of(claim):
    """("shown", paper) of a line that holds, ("fails", place) of another one."""
    stretch = stretch_of(claim)
    conditions, goal = tupled(claim)
    if stretch is None:
        return ("shown", ("never", never_step(conditions)))
    column = column_of(goal)[1]
    samples = samples_in((conditions, goal), stretch)
    for point in samples:
        if sign_at(column, point) < 0:
            return ("fails", tuple([(name, point) for name in unknowns_in(claim)]))
    if stretch[0] is not None and stretch[0] == stretch[1]:
        return ("shown", ("one",))
    number = number_of(goal)
    if number is not None:
        return ("shown", ("step", ("number", number)))
    return ("shown", line_paper(goal, samples[0]))


def line_noughts(claim, *, width=WIDTH):
    """The pairs, as parted has them, of the roots of a line's goal that lie in its stretch."""
    told = line_of(claim)
    if told[0] == "fails":
        raise Fails(told[1])
    goal = claim[1]
    if not goal:
        raise NoParts()
    stretch = stretch_of(claim)
    if stretch is None:
        return []
    low, high = stretch
    pairs = parted(goal, width=width)
    first = 0
    if low is not None:
        # Low itself is in the stretch.
        at_low = 1 if sign_at(column_of(goal)[1], low) == 0 else 0
        first = roots_between(goal, None, low) - at_low
    return pairs[first:roots_between(goal, None, high)]
