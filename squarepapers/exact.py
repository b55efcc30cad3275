"""The roots of columns that are fractions."""

from squarepapers.columns import sign_at, slope_column
from squarepapers.fractions import lowest


def worth_within(column, number, modulus):
    """The column's worth at a number, less all times the modulus."""
    total = 0
    for weight in reversed(column):
        total = (total * number + weight) % modulus
    return total


def is_prime(number):
    """Whether a number of 2 and more is a prime."""
    return all([number % divisor != 0 for divisor in range(2, number) if divisor * divisor <= number])


def plain_roots(column, prime):
    """The numbers below the prime at which it divides the column's worth; None where it divides a slope there."""
    roots = [number for number in range(prime) if worth_within(column, number, prime) == 0]
    slope = slope_column(column)
    if 0 in [worth_within(slope, root, prime) for root in roots]:
        return None
    return roots


def fit_prime(column):
    """A prime that divides neither the column's lead nor, at its plain roots, its slope; and those roots.

    There is one, as the column has no root twice: just finitely many primes are unfit.
    """
    prime = 2
    while True:
        if is_prime(prime) and column[-1] % prime != 0:
            roots = plain_roots(column, prime)
            if roots is not None:
                return (prime, roots)
        prime += 1


def refined(column, root, prime, least):
    """(root, modulus): the one root, by a power of the prime above least, that is the plain one by the prime."""
    slope = slope_column(column)
    steep = worth_within(slope, root, prime)
    inverse = [number for number in range(prime) if number * steep % prime == 1][0]
    modulus = prime
    while modulus <= least:
        modulus = modulus * modulus
        root = (root - worth_within(column, root, modulus) * inverse) % modulus
        inverse = inverse * (2 - worth_within(slope, root, modulus) * inverse) % modulus
    return (root, modulus)


def exact_roots(column):
    """The roots that are fractions, in any order, of a column without roots twice.

    Such a root times the lead is a whole number, and no greater than the bound below;
    it is one of the roots by a great power of a prime, where there are but few.
    """
    prime, roots = fit_prime(column)
    lead = column[-1]
    bound = abs(lead) + max([abs(number) for number in column])
    found = []
    for plain in roots:
        root, modulus = refined(column, plain, prime, 2 * bound)
        top = root * lead % modulus
        point = lowest(top - modulus if top > bound else top, lead)
        if sign_at(column, point) == 0:
            found.append(point)
    return found
