"""Chains of forms in at most one unknown, and how many roots lie between two fractions."""

from squarepapers.columns import chain_column, column_of, free_column, roots_counted, unknown_in
from squarepapers.errors import NoParts
from squarepapers.forms import weighed
from squarepapers.fractions import compared
from squarepapers.kinds import tupled
from squarepapers.lines import divided, slope_of


def chain_of(form):
    """The list of the form, its slope, then always the rest of the last but one by the last one, times -1."""
    chain = []
    one, other = tupled(form), slope_of(form)
    while other:
        chain.append(one)
        one, other = other, weighed(divided(one, other)[1], (-1, 1))
    if one:
        chain.append(one)
    return chain


def roots_between(form, low, high):
    """How many numbers above low and not above high are roots of the form, each once; None is for no bound."""
    unknown_in([form])
    if not form:
        raise NoParts()
    if low is not None and high is not None and compared(low, high) >= 0:
        return 0
    return roots_counted(chain_column(free_column(column_of(form)[1])), low, high)
