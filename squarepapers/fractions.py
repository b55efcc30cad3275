"""Fractions: pairs (top, bottom) in lowest terms, bottom 1 or more."""

from math import gcd, isqrt

from squarepapers.errors import BadText, NoParts
from squarepapers.figures import are_figures, figures_of, number_in
from squarepapers.kinds import is_number, is_pair


def is_fraction(thing):
    """Whether thing is a fraction."""
    if not is_pair(thing):
        return False
    top, bottom = thing
    if not is_number(top) or not is_number(bottom):
        return False
    return bottom >= 1 and gcd(top, bottom) == 1


def lowest(top, bottom):
    """The fraction that top by bottom is."""
    if bottom == 0:
        raise NoParts()
    common = gcd(top, bottom)
    if bottom < 0:
        common = -common
    return (top // common, bottom // common)


def plus(one, other):
    """The sum of both."""
    (a, b), (c, d) = one, other
    return lowest(a * d + c * b, b * d)


def less(one, other):
    """The one without the other."""
    (a, b), (c, d) = one, other
    return lowest(a * d - c * b, b * d)


def times(one, other):
    """The product of both."""
    (a, b), (c, d) = one, other
    return lowest(a * c, b * d)


def over(one, other):
    """The one parted by the other; NoParts where that is nought."""
    (a, b), (c, d) = one, other
    return lowest(a * d, b * c)


def raised(fraction, many):
    """The fraction to a power that isn't below nought; power 0 is 1."""
    product = (1, 1)
    for _ in range(many):
        product = times(product, fraction)
    return product


def sign_of(fraction):
    """1 above nought, 0 at nought, -1 below."""
    top = fraction[0]
    if top == 0:
        return 0
    return 1 if top > 0 else -1


def compared(one, other):
    """1 where one is greater, 0 where they are alike, else -1."""
    return sign_of(less(one, other))


def root_of(fraction):
    """The fraction, not below nought, whose square it is; None without one."""
    top, bottom = fraction
    if top < 0:
        return None
    root = (isqrt(top), isqrt(bottom))
    # In lowest terms a square has squares above and below.
    if root[0] * root[0] != top or root[1] * root[1] != bottom:
        return None
    return root


def fraction_text(fraction):
    """The fraction's text, as `-7/12`."""
    top, bottom = fraction
    text = figures_of(abs(top))
    if top < 0:
        text = "-" + text
    return text if bottom == 1 else f"{text}/{figures_of(bottom)}"


def fraction_in(text):
    """The fraction whose text it is; BadText(0) of other texts."""
    head, stroke, tail = text.partition("/")
    top = head.removeprefix("-")
    bottom = tail if stroke else "1"
    if not are_figures(top) or not are_figures(bottom) or number_in(bottom) == 0:
        raise BadText(0)
    sign = -1 if head.startswith("-") else 1
    fraction = lowest(sign * number_in(top), number_in(bottom))
    # Each fraction has one text only: noughts ahead, -0, 2/4 and 1/1 end here.
    if fraction_text(fraction) != text:
        raise BadText(0)
    return fraction
