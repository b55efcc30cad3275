"""Columns: what forms of one unknown are reckoned with.

A column is a list of whole numbers, those of the unknown's powers 0, 1, 2, ..,
the last one not nought; that of nought is bare. Whole numbers without a common
divisor stay far smaller than fractions do where forms are parted again and again.
"""

from math import gcd, lcm

from squarepapers.errors import BadUnknowns
from squarepapers.forms import degree_of, names_of, powers_of, sum_of
from squarepapers.fractions import lowest, times


def unknown_in(forms):
    """The one unknown of the forms, any where they have none; BadUnknowns where they have several."""
    names = sorted({name for form in forms for name in names_of(form)})
    if len(names) > 1:
        raise BadUnknowns(tuple(names))
    return names[0] if names else "x"


def trimmed(numbers):
    """The numbers without the noughts at their end."""
    many = len(numbers)
    while many > 0 and numbers[many - 1] == 0:
        many -= 1
    return numbers[:many]


def divisor_of(column):
    """The greatest number that divides all of the column; 0 of the bare one."""
    divisor = 0
    for number in column:
        divisor = gcd(divisor, number)
    return divisor


def shortened(column):
    """The column without a common divisor, its signs as they are."""
    divisor = divisor_of(column)
    return [number // divisor for number in column]


def column_of(form):
    """The pair (scale, column) whose product is the form: the scale not below nought, the column shortened."""
    bottom = 1
    for powers, worth in form:
        bottom = lcm(bottom, worth[1])
    numbers = [0] * (degree_of(form) + 1)
    for powers, worth in form:
        numbers[sum([power for name, power in powers])] = worth[0] * (bottom // worth[1])
    column = trimmed(numbers)
    return (lowest(divisor_of(column), bottom), shortened(column))


def form_of(column, scale, name):
    """The form that the column is, times the scale."""
    terms = [((), times((number, 1), scale)) for number in column[:1]]
    for power in range(1, len(column)):
        terms.append((powers_of([(name, power)]), times((column[power], 1), scale)))
    return sum_of(terms)


def slope_column(column):
    """The slope of a column."""
    return [power * number for power, number in enumerate(column)][1:]


def parted_columns(one, other):
    """(many, quotient, rest): many, above nought, times one is quotient times other, and rest; other isn't bare."""
    many = 1
    quotient = [0] * max(0, len(one) - len(other) + 1)
    rest = list(one)
    while len(rest) >= len(other):
        # Many grows by no more than it must for whole numbers to stay whole.
        by = abs(other[-1]) // gcd(other[-1], rest[-1])
        share = by * rest[-1] // other[-1]
        shift = len(rest) - len(other)
        many = many * by
        quotient = [by * number for number in quotient]
        quotient[shift] = share
        taken = [0] * shift + [share * number for number in other]
        rest = trimmed([by * number - part for number, part in zip(rest, taken)])
    return (many, quotient, rest)


def common_column(one, other):
    """The column of greatest degree that divides both; bare where both are."""
    while other:
        one, other = other, shortened(parted_columns(one, other)[2])
    return one


def free_column(column):
    """The column with the same roots, each once."""
    return shortened(parted_columns(column, common_column(column, slope_column(column)))[1])


def chain_column(column):
    """The columns whose signs are those of the column's chain."""
    chain = [column]
    one, other = column, slope_column(column)
    while other:
        chain.append(other)
        one, other = other, [-number for number in shortened(parted_columns(one, other)[2])]
    return chain


def sign_at(column, point):
    """The sign of the column's worth at a fraction."""
    top, bottom = point
    total, scale = 0, 1
    for number in reversed(column):
        total = total * top + number * scale
        scale = scale * bottom
    if total == 0:
        return 0
    return 1 if total > 0 else -1


def sign_far(column, side):
    """The sign of a column that isn't bare far above all roots, where side is 1, or far below, where it's -1."""
    sign = 1 if column[-1] > 0 else -1
    return sign * side if len(column) % 2 == 0 else sign


def changes_at(chain, point, side):
    """How often a sign of the chain follows an unlike one, noughts left out, at the point, or far on that side."""
    if point is None:
        signs = [sign_far(column, side) for column in chain]
    else:
        signs = [sign_at(column, point) for column in chain]
    kept = [sign for sign in signs if sign != 0]
    return len([one for one, other in zip(kept, kept[1:]) if one != other])


def roots_counted(chain, low, high):
    """How many roots lie above low and not above high, of the column without roots twice whose chain this is."""
    return changes_at(chain, low, -1) - changes_at(chain, high, 1)
