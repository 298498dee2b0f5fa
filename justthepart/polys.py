"""Polynomials (c0, c1, c2) of degree 2 at most, for c0 + c1 x + c2 x x, and their exact roots.

A fraction is a pair (n, d) without common divisors, d above 0. A root that is no fraction is
("root", own, which): own a polynomial in whole form with a last number above 0 and without
fractions as roots, which 0 for its lower and 1 for its higher root.
"""

from math import gcd, isqrt, lcm


def sign_of(number):
    """Return 1, 0 or -1, the sign of an integer."""
    return (number > 0) - (number < 0)


def fraction(above, below):
    """Return above / below in least form, below being any integer but 0."""
    common = gcd(above, below)
    if below < 0:
        common = -common
    return (above // common, below // common)


def undivided(c0, c1, c2):
    """Return a polynomial of integers without their common divisor, its signs kept."""
    common = gcd(c0, c1, c2)
    if common == 0:
        return (0, 0, 0)
    return (c0 // common, c1 // common, c2 // common)


def whole(poly):
    """Return the whole form of a polynomial of fractions.

    An integer counts as a fraction over 1, so that a whole form may be asked for its own one.
    """
    pairs = [part if isinstance(part, tuple) else (part, 1) for part in poly]
    (n0, d0), (n1, d1), (n2, d2) = pairs
    below = lcm(d0, d1, d2)
    return undivided(n0 * (below // d0), n1 * (below // d1), n2 * (below // d2))


def discriminant(c0, c1, c2):
    """Return what stands below the square root where the roots of a polynomial are told."""
    return c1 * c1 - 4 * c0 * c2


def roots(poly):
    """Return the ascending list of the real roots of a polynomial in whole form, each once."""
    c0, c1, c2 = poly
    if c2 != 0:
        return square_roots(c0, c1, c2)
    if c1 != 0:
        return [fraction(-c0, c1)]
    return []


def square_roots(c0, c1, c2):
    """Return the ascending list of the real roots of a polynomial, c2 not being 0."""
    square = discriminant(c0, c1, c2)
    if square < 0:
        return []
    if c2 < 0:
        c0, c1, c2 = -c0, -c1, -c2
    side = isqrt(square)
    if side * side != square:
        # One root has one form only, whatever multiple of its polynomial told it.
        own = undivided(c0, c1, c2)
        return [("root", own, 0), ("root", own, 1)]
    if side == 0:
        return [fraction(-c1, 2 * c2)]
    return [fraction(-c1 - side, 2 * c2), fraction(-c1 + side, 2 * c2)]


def sign_on(poly, place):
    """Return the sign of a polynomial in whole form at a fraction or a root."""
    c0, c1, c2 = poly
    if place[0] != "root":
        n, d = place
        return sign_of((c0 * d + c1 * n) * d + c2 * n * n)
    _, (b0, b1, b2), which = place
    # At the root x x is -(b0 + b1 x) / b2, so b2 times the polynomial is flat + steep x.
    flat = c0 * b2 - c2 * b0
    steep = c1 * b2 - c2 * b1
    # The root is -b1 and the square root, added or taken away, over 2 b2, which is above 0.
    flat = 2 * b2 * flat - b1 * steep
    if which == 0:
        steep = -steep
    return sign_of_surd(flat, steep, discriminant(b0, b1, b2))


def sign_of_surd(flat, steep, square):
    """Return the sign of flat plus steep times the root of square, above 0 and of no integer."""
    one = sign_of(flat)
    other = sign_of(steep)
    if one * other >= 0:
        return one or other
    if flat * flat > steep * steep * square:
        return one
    return other
