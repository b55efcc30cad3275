"""Forms in at most one unknown: parted, their common divisors, their parts without roots twice."""

from squarepapers.columns import column_of, common_column, form_of, parted_columns, unknown_in
from squarepapers.errors import NoParts
from squarepapers.forms import degree_of, less_of, powers_of, sum_of
from squarepapers.fractions import over, times
from squarepapers.kinds import tupled


def lead_of(form):
    """The fraction of its greatest power."""
    unknown_in([form])
    return tupled(form[-1][1]) if form else (0, 1)


def divided(one, other):
    """The pair (quotient, rest) of one by other, rest of lesser degree than other, or nought."""
    name = unknown_in([one, other])
    if not other:
        raise NoParts()
    (scale, front), (unit, back) = column_of(one), column_of(other)
    many, quotient, rest = parted_columns(front, back)
    share = over(scale, (many, 1))
    return (form_of(quotient, over(share, unit), name), form_of(rest, share, name))


def slope_of(form):
    """The sum, of each term, of its fraction times its power, times the unknown to a power one less."""
    unknown_in([form])
    terms = []
    for powers, worth in form:
        for name, power in powers:
            left = powers_of([(name, power - 1)]) if power > 1 else ()
            terms.append((left, times(worth, (power, 1))))
    return sum_of(terms)


def common_of(one, other):
    """The form of greatest degree that divides both, its lead 1; nought where both are."""
    name = unknown_in([one, other])
    column = common_column(column_of(one)[1], column_of(other)[1])
    return form_of(column, over((1, 1), (column[-1], 1)), name) if column else ()


def free_parts(form):
    """The rising list of pairs (number, form), without roots twice, that to these powers make the form."""
    unknown_in([form])
    if not form:
        raise NoParts()
    slope = slope_of(form)
    common = common_of(form, slope)
    # Yun's way: left has the roots that stand more than number times; taking away
    # left's slope makes ahead nought at just those that stand once more than that.
    left, ahead = divided(form, common)[0], divided(slope, common)[0]
    parts = []
    number = 0
    while degree_of(left) > 0:
        number += 1
        ahead = less_of(ahead, slope_of(left))
        part = common_of(left, ahead)
        if degree_of(part) > 0:
            parts.append((number, part))
        left, ahead = divided(left, part)[0], divided(ahead, part)[0]
    return parts
