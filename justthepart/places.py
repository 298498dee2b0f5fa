"""Places on a line, fractions and roots strictly between 0 and 1, and the cells between them."""

from math import gcd, isqrt

from justthepart.polys import discriminant, fraction, roots, sign_of, sign_on

# Most roots are unlike in so many bits; those that are not are looked at more closely.
FIRST_BITS = 64


def is_int(thing):
    """Return whether a thing is an integer, which True and False are not."""
    return isinstance(thing, int) and not isinstance(thing, bool)


def is_place(thing):
    """Return whether any thing is a place on a line."""
    if not isinstance(thing, tuple):
        return False
    if len(thing) == 2:
        return is_place_fraction(thing[0], thing[1])
    if len(thing) == 3:
        return is_place_root(thing[0], thing[1], thing[2])
    return False


def is_place_fraction(n, d):
    """Return whether two things are those of a fraction strictly between 0 and 1."""
    return is_int(n) and is_int(d) and 0 < n < d and gcd(n, d) == 1


def is_place_root(word, own, which):
    """Return whether three things are those of a root strictly between 0 and 1."""
    if not (isinstance(word, str) and word == "root" and is_own(own)):
        return False
    return is_int(which) and which in (0, 1) and is_inner((word, own, which))


def is_own(thing):
    """Return whether a thing is the polynomial of roots that are no fractions, as a root tells it."""
    if not (isinstance(thing, tuple) and len(thing) == 3 and all([is_int(part) for part in thing])):
        return False
    c0, c1, c2 = thing
    if c2 <= 0 or gcd(c0, c1, c2) != 1:
        return False
    square = discriminant(c0, c1, c2)
    if square <= 0:
        return False
    side = isqrt(square)
    return side * side != square


def is_inner(root):
    """Return whether a fraction or root lies strictly between 0 and 1."""
    if root[0] == "root":
        return floor_of(root, 0) == 0
    return 0 < root[0] < root[1]


def floor_of(root, bits):
    """Return the greatest integer that is not above a fraction or root times 2, bits times."""
    if root[0] != "root":
        n, d = root
        return (n << bits) // d
    _, (c0, c1, c2), which = root
    far = isqrt(discriminant(c0, c1, c2) << (2 * bits))
    if which == 0:
        # The square root is no integer: less than nothing, it lies below -far.
        far = -far - 1
    return (((-c1) << bits) + far) // (2 * c2)


def order_of(one, other):
    """Return the sign of the difference of two fractions or roots."""
    if other[0] != "root":
        n, d = other
        return sign_on((-n, d, 0), one)
    side = sign_on(other[1], one)
    if side == 0:
        # No fraction is a root of the other's polynomial: one is a root of it as well.
        return sign_of(one[2] - other[2])
    if side < 0:
        # One lies between both roots of the other's polynomial.
        return 1 if other[2] == 0 else -1
    # One lies beside both of them, on the side on which the polynomial falls or rises.
    _, c1, c2 = other[1]
    return sign_on((c1, 2 * c2, 0), one)


def ascending(unlike, bits):
    """Return the ascending list of fractions and roots, no two of which are equal."""
    groups = {}
    for root in unlike:
        groups.setdefault(floor_of(root, bits), []).append(root)
    out = []
    for floor in sorted(groups):
        group = groups[floor]
        out.extend(group if len(group) == 1 else ascending(group, 2 * bits))
    return out


def places_of(polys):
    """Return the ascending list of the places that are roots of some polynomials in whole form."""
    found = {}
    for poly in polys:
        for root in roots(poly):
            if is_inner(root):
                found[root] = True
    return ascending(list(found), FIRST_BITS)


def cells_of(polys):
    """Return the list of the cells from 0 to 1: a stretch, a place, a stretch, and so on."""
    return cells_between((0, 1), places_of(polys), (1, 1))


def cells_between(one, places, other):
    """Return the list of the cells from one end to another one, some ascending places lying between them."""
    out = []
    for place in places:
        out.append(("between", one, place))
        out.append(("at", place))
        one = place
    out.append(("between", one, other))
    return out


def sample(cell):
    """Return a place in a cell."""
    if cell[0] == "at":
        return cell[1]
    _, one, other = cell
    bits = 1
    while floor_of(other, bits) - floor_of(one, bits) < 2:
        bits = 2 * bits
    return fraction(floor_of(one, bits) + 1, 1 << bits)


def is_still(poly, cell):
    """Return whether a polynomial in whole form has no root strictly within a stretch."""
    if cell[0] == "at":
        return True
    _, one, other = cell
    low = sign_on(poly, one)
    high = sign_on(poly, other)
    if low * high < 0:
        return False
    c0, c1, c2 = poly
    outer = sign_of(c2)
    # Without a turn there is no second root; between both roots, and at them, there is no third.
    if outer == 0 or low == -outer or high == -outer or low == high == 0:
        return True
    # Neither end lies between the roots: they are within only if the turn between them is.
    if discriminant(c0, c1, c2) < 0:
        return True
    turn = (c1, 2 * c2, 0)
    return sign_on(turn, one) * sign_on(turn, other) >= 0
