"""The currents of a net with a fault, as polynomials in what is not told of it.

That is the place x of the fault on its line, or, if the fault has a resistance, how much of it there is, y.
Within the package the polynomials of flows are triples of integers; `flows` tells them as fractions.

A SITE is (unit, parts, shared): how the X of a faulty line is shared out among its two parts, and what resistance
the fault has, these being polynomials over the unit.
"""

from math import gcd

from justthepart.grids import Grid
from justthepart.parts import balance_of, part_named
from justthepart.polys import fraction

ZERO = (0, 0, 0)
ONE = (1, 0, 0)

# A fault without a resistance, at x on its line.
BARE = (1, ((0, 1, 0), (1, -1, 0)), (0, 0, 0))


def flows(net, opened, fault):
    """Return (den, volts, into): the voltages of buses and the currents into breakers, over den, at a topology."""
    return told_in_fractions(whole_flows(net, opened, fault, BARE))


def told_in_fractions(whole):
    """Return flows whose polynomials are of integers as ones of fractions."""
    den, volts, into = whole
    volts = {bus: of_fractions(volts[bus]) for bus in volts}
    return of_fractions(den), volts, {breaker: of_fractions(into[breaker]) for breaker in into}


def of_fractions(poly):
    """Return a polynomial of integers as one of fractions."""
    c0, c1, c2 = poly
    return ((c0, 1), (c1, 1), (c2, 1))


def into_fault(net, told, fault):
    """Return the polynomial of the whole current into the fault, over the den of flows told."""
    into = told[2]
    # What gets lost in a line flows into its fault; what comes out of a bus is lacking in its fault.
    side = 1 if fault[0] == "line" else -1
    pairs = [(side * sign, into[breaker]) for sign, breaker in balance_of(net, fault[1])]
    return tuple([sum_of([(sign, poly[at]) for sign, poly in pairs]) for at in range(3)])


def sum_of(pairs):
    """Return the sum of fractions, each with a sign."""
    above, below = 0, 1
    for sign, (n, d) in pairs:
        above, below = fraction(above * d + sign * n * below, below * d)
    return (above, below)


def plus(one, other, number):
    """Return the sum of a polynomial of integers and a number times another one."""
    return (one[0] + number * other[0], one[1] + number * other[1], one[2] + number * other[2])


def times(poly, number):
    """Return a polynomial of integers times a number."""
    return (poly[0] * number, poly[1] * number, poly[2] * number)


def product_of(one, other):
    """Return the product of two polynomials of integers of degree 1 at most."""
    a0, a1, _ = one
    b0, b1, _ = other
    return (a0 * b0, a0 * b1 + a1 * b0, a1 * b1)


def drains_of(net, opened, fault, fed, parts):
    """Return (breaker, bus, resistance) of all that goes from fed buses to the fault, breaker None in a faulty bus."""
    kind, name = fault
    if kind == "bus":
        return [(None, name, ZERO)] if name in fed else []
    _, one, other, resistance = part_named(net[1], name)
    ends = [((name, 0), one, times(parts[0], resistance)), ((name, 1), other, times(parts[1], resistance))]
    return [end for end in ends if end[0] not in opened and end[1] in fed]


def drawn_by(grid, drains, unit, shared):
    """Return (den, falls, drawn), all over den: how far the voltages of buses fall from 1, and what drains draw.

    What the drains draw lets the voltage at each of them fall from 1 to just what its resistance then needs, and
    the one that all of them share.
    """
    if not drains:
        return ONE, {}, []
    below, drops = grid.drops([drain[1] for drain in drains])
    drops = [{bus: drop[bus] * unit for bus in drop} for drop in drops]
    # So much the voltage at a drain falls for a 1 that another one draws, as both draw through what they share.
    common = times(shared, below)
    sides = [plus(plus(common, drain[2], below), ONE, drop[drain[1]]) for drop, drain in zip(drops, drains)]
    den, pulls = sides[0], [ONE]
    if len(drains) == 2:
        between = plus(common, ONE, drops[0][drains[1][1]])
        den = plus(product_of(sides[0], sides[1]), product_of(between, between), -1)
        pulls = [plus(sides[1], between, -1), plus(sides[0], between, -1)]
    falls = {bus: ZERO for bus in drops[0]}
    for drop, pull in zip(drops, pulls):
        for bus in drop:
            falls[bus] = plus(falls[bus], pull, drop[bus])
    return den, falls, [times(pull, below * unit) for pull in pulls]


def is_burning(net, opened, fault):
    """Return whether a current flows into a fault at a topology."""
    return bool(drains_of(net, opened, fault, Grid(net, opened, fault).fed, BARE[1]))


def whole_flows(net, opened, fault, site):
    """Return flows at a site whose polynomials are triples of integers, without a divisor common to all of them."""
    unit, parts, shared = site
    grid = Grid(net, opened, fault)
    drains = drains_of(net, opened, fault, grid.fed, parts)
    den, falls, drawn = drawn_by(grid, drains, unit, shared)
    volts = {bus: ZERO for bus in net[0]}
    for bus in grid.fed:
        volts[bus] = plus(den, falls[bus], -1) if bus in falls else den
    into = {(line[0], end): ZERO for line in net[1] for end in (0, 1)}
    scale = grid.multiple()
    for name, one, other, resistance in grid.ways:
        into[(name, 0)] = times(plus(volts[one], volts[other], -1), scale // resistance)
        into[(name, 1)] = times(into[(name, 0)], -1)
    for drain, draw in zip(drains, drawn):
        if drain[0] is not None:
            into[drain[0]] = times(draw, scale)
    for source in net[2]:
        into[(source[0], 0)] = ZERO
    for name, bus, resistance in grid.sources:
        into[(name, 0)] = times(plus(den, volts[bus], -1), scale // resistance)
    return shortened(times(den, scale), {bus: times(volts[bus], scale) for bus in volts}, into)


def shortened(den, volts, into):
    """Return flows without a divisor that all their numbers have in common."""
    divisor = gcd(den[0], den[1], den[2])
    for c0, c1, c2 in list(volts.values()) + list(into.values()):
        divisor = gcd(divisor, c0, c1, c2)
    volts = {bus: divided(volts[bus], divisor) for bus in volts}
    return divided(den, divisor), volts, {breaker: divided(into[breaker], divisor) for breaker in into}


def divided(poly, divisor):
    """Return a polynomial of integers without a divisor of all of them."""
    return (poly[0] // divisor, poly[1] // divisor, poly[2] // divisor)
