"""What the tests compare with: values of roots to many figures, worked out another way."""

from decimal import Decimal, getcontext
from fractions import Fraction
from functools import lru_cache

# More figures than any test tells two unlike values apart by.
getcontext().prec = 2500

ENDS = ((0, 1), (1, 1))


@lru_cache(maxsize=None)
def value_of(place):
    """Return the value of a fraction or root to 2,500 figures."""
    if place[0] == "root":
        c0, c1, c2 = (Decimal(c) for c in place[1])
        side = (c1 * c1 - 4 * c0 * c2).sqrt()
        return (-c1 + (side if place[2] else -side)) / (2 * c2)
    return Decimal(place[0]) / Decimal(place[1])


def sign(number):
    """Return the sign of a number."""
    return 1 if number > 0 else -1 if number < 0 else 0


def order(one, other):
    """Return the sign of the difference of two values, those that differ in the last figures being equal."""
    if one == other:
        return 0
    return sign(value_of(one) - value_of(other))


def poly_at(poly, n, d):
    """Return the value of a polynomial of integers at a fraction."""
    x = Fraction(n, d)
    return poly[0] + poly[1] * x + poly[2] * x * x


def times(one, other):
    """Return the product of two polynomials of degree 1."""
    return (one[0] * other[0], one[0] * other[1] + one[1] * other[0], one[1] * other[1])
