"""Papers of lines: forms without roots in a stretch, and the chains that show it."""

from squarepapers.columns import changes_at, column_of, form_of, sign_at
from squarepapers.forms import degree_of, less_of, names_of, number_form, number_of, power_of, times_of, weighed
from squarepapers.fractions import compared
from squarepapers.lines import divided, free_parts, lead_of, slope_of


def square_parted(form):
    """The pair (square, rest) of forms, rest without roots twice: square times square times rest is the form."""
    square, rest = number_form((1, 1)), number_form(lead_of(form))
    for number, part in free_parts(form):
        square = times_of(square, power_of(part, number // 2))
        if number % 2 == 1:
            rest = times_of(rest, part)
    return (square, rest)


def chain_rows(form):
    """The rows (quotient, weight, next) of the chain of a form without roots twice, behind it and its slope."""
    rows = []
    one, other = form, slope_of(form)
    while degree_of(other) > 0:
        quotient, rest = divided(one, other)
        # The rest is taken without its common divisor, lest the chain's numbers grow.
        weight, column = column_of(rest)
        last = form_of([-number for number in column], (1, 1), names_of(form)[0])
        rows.append((quotient, weight, last))
        one, other = other, last
    return tuple(rows)


def line_paper(goal, sample):
    """The paper of a goal, not nought, that is above nought at the sample and nowhere below in its stretch."""
    square, rest = square_parted(goal)
    return ("line", square, rest, chain_rows(rest), sample)


def chain_told(form, rows):
    """The chain that begins with the form and its slope, as rows tell it; None where one of them isn't so."""
    chain = [form, slope_of(form)]
    for quotient, weight, last in rows:
        if less_of(times_of(quotient, chain[-1]), weighed(last, weight)) != chain[-2]:
            return None
        chain.append(last)
    return chain


def ends_well(chain, names):
    """Whether the chain's forms have none but these unknowns, and the last one is a number, not nought."""
    if not all([name in names for form in chain for name in names_of(form)]):
        return False
    return chain[-1] != () and number_of(chain[-1]) is not None


def is_rootless(chain, low, high):
    """Whether the chain's signs tell that its first form has no root above low and below high."""
    columns = [column_of(form)[1] for form in chain if form]
    at_end = 1 if high is not None and sign_at(columns[0], high) == 0 else 0
    return changes_at(columns, low, -1) == changes_at(columns, high, 1) + at_end


def is_amid(point, low, high):
    """Whether the point is above low and below high; None is for no bound."""
    if low is not None and compared(low, point) >= 0:
        return False
    return high is None or compared(point, high) < 0


def shows_line(goal, names, stretch, paper):
    """Whether a line's paper shows the goal, of at most these unknowns, in a stretch of several fractions."""
    word, square, rest, rows, sample = paper
    if not all([name in names for name in names_of(square) + names_of(rest)]):
        return False
    if times_of(times_of(square, square), rest) != goal:
        return False
    number = number_of(rest)
    if number is not None and number[0] >= 0 and rows == ():
        return True
    chain = chain_told(rest, rows)
    if chain is None or not ends_well(chain, names):
        return False
    low, high = stretch
    if not is_amid(sample, low, high) or sign_at(column_of(rest)[1], sample) != 1:
        return False
    return is_rootless(chain, low, high)
