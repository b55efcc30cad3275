"""The roots of forms in at most one unknown: fractions, and stretches around the others."""

from squarepapers.columns import chain_column, changes_at, column_of, free_column, roots_counted, sign_at, unknown_in
from squarepapers.errors import NoParts
from squarepapers.exact import exact_roots
from squarepapers.fractions import compared, is_fraction, less, plus, times
from squarepapers.kinds import is_pair
from squarepapers.words import WIDTH


def free_line(form):
    """The column with the form's roots, each once; refused where there's more than one unknown, or nought."""
    unknown_in([form])
    if not form:
        raise NoParts()
    return free_column(column_of(form)[1])


def parted(form, *, width=WIDTH):
    """The rising list of pairs (low, high), one for each root of the form, alike where it is a fraction."""
    column = free_line(form)
    chain, exact = chain_column(column), exact_roots(column)
    # Above this all powers but the greatest are together less than that one.
    bound = 2 + max([abs(number) for number in column]) // abs(column[-1])
    ends = [(-bound, 1), (bound, 1)]
    waiting = [[(end, changes_at(chain, end, 1)) for end in ends]]
    pairs = []
    while waiting:
        (low, front), (high, back) = waiting.pop()
        within = [root for root in exact if is_within(root, low, high)]
        if front == back + 1 and within:
            pairs.append((within[0], within[0]))
        elif front == back + 1 and sign_at(column, low) != 0:
            pairs.append(narrowed(column, low, high, width))
        elif front > back:
            middle = between(low, high)
            marked = (middle, changes_at(chain, middle, 1))
            # The last one is the first to be taken up: so the pairs rise.
            waiting.append([marked, (high, back)])
            waiting.append([(low, front), marked])
    return pairs


def is_within(point, low, high):
    """Whether the point is above low and not above high."""
    return compared(low, point) < 0 and compared(point, high) <= 0


def between(low, high):
    """The fraction in the middle of both."""
    return times(plus(low, high), (1, 2))


def is_narrow(low, high, width):
    """Whether both are at most that width apart."""
    return compared(less(high, low), width) <= 0


def narrowed(column, low, high, width):
    """Fractions at most width apart around the only root of low to high, which is no fraction."""
    sign = sign_at(column, low)
    while not is_narrow(low, high, width):
        middle = between(low, high)
        if sign_at(column, middle) == sign:
            low = middle
        else:
            high = middle
    return (low, high)


def shows_parted(form, thing, *, width=WIDTH):
    """Whether thing is what parted may tell of the form."""
    column = free_line(form)
    chain, exact = chain_column(column), exact_roots(column)
    if not isinstance(thing, list) or len(thing) != roots_counted(chain, None, None):
        return False
    if not all([is_pair(pair) and is_fraction(pair[0]) and is_fraction(pair[1]) for pair in thing]):
        return False
    for at, (low, high) in enumerate(thing):
        # With just so many roots up to high, it is the root of that number, in rising order.
        if roots_counted(chain, None, high) != at + 1:
            return False
        if low != high and not is_around(chain, exact, at, (low, high), width):
            return False
        if low == high and low not in exact:
            return False
    return True


def is_around(chain, exact, at, pair, width):
    """Whether the pair is around the root of that number, no other one, narrow enough, and that is no fraction."""
    low, high = pair
    if not is_narrow(low, high, width):
        return False
    if sign_at(chain[0], low) == 0 or roots_counted(chain, None, low) != at:
        return False
    return not [root for root in exact if is_within(root, low, high)]
