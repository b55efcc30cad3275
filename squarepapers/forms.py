"""Forms: sums of fractions times products of unknowns' powers."""

from squarepapers.errors import BadText
from squarepapers.fractions import fraction_in, fraction_text, is_fraction, plus, times
from squarepapers.kinds import are_named, is_number, is_pair, rises, tupled

GREATEST_POWER = 24


def is_power(thing):
    """Whether thing is a number that may stand as an unknown's power."""
    return is_number(thing) and 1 <= thing <= GREATEST_POWER


def is_term(thing):
    """Whether thing is a pair of powers and a fraction that isn't nought."""
    if not is_pair(thing):
        return False
    powers, worth = thing
    return are_named(powers, is_power) and is_fraction(worth) and worth[0] != 0


def is_form(thing):
    """Whether thing is a form."""
    if not isinstance(thing, tuple) or not all([is_term(term) for term in thing]):
        return False
    return rises([powers for powers, worth in thing])


def powers_of(pairs):
    """The powers of a product of unknowns' powers, in any order, some maybe more than once."""
    sums = {}
    for name, power in pairs:
        sums[name] = sums.get(name, 0) + power
    return tuple(sorted(sums.items()))


def sum_of(terms):
    """The form that terms sum to, in any order, with like powers maybe more than once."""
    sums = {}
    for powers, worth in terms:
        sums[powers] = plus(sums.get(powers, (0, 1)), worth)
    return tuple(sorted([(powers, worth) for powers, worth in sums.items() if worth[0] != 0]))


def number_form(fraction):
    """The form that is just that fraction."""
    return sum_of([((), fraction)])


def unknown(name):
    """The form that is just the unknown of that name."""
    return ((((name, 1),), (1, 1)),)


def plus_of(one, other):
    """The sum of both."""
    return sum_of(tupled(one) + tupled(other))


def less_of(one, other):
    """The one without the other."""
    return plus_of(one, weighed(other, (-1, 1)))


def times_of(one, other):
    """The product of both."""
    front, back = tupled(one), tupled(other)
    return sum_of([(powers_of(a + b), times(c, d)) for a, c in front for b, d in back])


def weighed(form, fraction):
    """The form times a fraction."""
    return sum_of([(powers, times(worth, fraction)) for powers, worth in tupled(form)])


def power_of(form, many):
    """The form to that power; power 0 is 1."""
    product = number_form((1, 1))
    for _ in range(many):
        product = times_of(product, form)
    return product


def names_of(form):
    """The rising list of its unknowns."""
    return sorted({name for powers, worth in form for name, power in powers})


def degree_of(form):
    """The greatest sum of a term's powers, 0 of nought."""
    return max([sum([power for name, power in powers]) for powers, worth in form], default=0)


def number_of(form):
    """The fraction that it is, None where it has unknowns."""
    if names_of(form):
        return None
    return tupled(form[0][1]) if form else (0, 1)


def term_text(powers, worth):
    """The text of one term."""
    factors = [name if power == 1 else f"{name}^{power}" for name, power in powers]
    return "*".join([fraction_text(worth), *factors])


def form_text(form):
    """The form's text, as `3*x*y + -1*x^2`."""
    if not form:
        return "0"
    return " + ".join([term_text(powers, worth) for powers, worth in form])


def factor_in(text):
    """The pair of NAME and power that a factor's text tells; BadText(0) of other powers."""
    name, sign, figures = text.partition("^")
    if not sign:
        return (name, 1)
    for power in range(2, GREATEST_POWER + 1):
        if figures == str(power):
            return (name, power)
    raise BadText(0)


def term_in(text):
    """The term that a text tells; its NAMEs and their order are left to is_form."""
    worth, *factors = text.split("*")
    return (tuple([factor_in(factor) for factor in factors]), fraction_in(worth))


def form_in(text):
    """The form whose text it is; BadText(0) of other texts."""
    if text == "0":
        return ()
    form = tuple([term_in(part) for part in text.split(" + ")])
    if not is_form(form):
        raise BadText(0)
    return form
