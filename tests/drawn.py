"""Nets drawn for tests, by a random.Random with a fixed seed."""

from fractions import Fraction

import apart
from samples import breakers_of, faults_of

TINY = (1, 1000)


def pair(n, d):
    """Return the fraction n over d in least form."""
    number = Fraction(n, d)
    return (number.numerator, number.denominator)


def near(number, draw):
    """Return a fraction that may be an F, at a number or near it."""
    number = min(max(Fraction(number), Fraction(1, 1000)), Fraction(1000))
    most = draw.choice((20, 100, 1000))
    if number <= 1:
        number = number.limit_denominator(most) or Fraction(1, 1000)
        return (number.numerator, number.denominator)
    # So that the number above is no greater than the one below would be.
    number = (1 / number).limit_denominator(most) or Fraction(1, 1000)
    return (number.denominator, number.numerator)


def grid(draw, buses, lines, sources):
    """Return the first three parts of a net; most of its buses hang together."""
    names = tuple("abcdef"[:buses])
    out = []
    for at in range(1, buses):
        if len(out) < lines and draw.random() < 0.9:
            ends = draw.sample([names[draw.randrange(at)], names[at]], 2)
            out.append((f"l{len(out)}", *ends, draw.randint(1, 20)))
    while len(out) < lines and buses > 1:
        out.append((f"l{len(out)}", *draw.sample(names, 2), draw.randint(1, 20)))
    return names, tuple(out), tuple((f"s{at}", draw.choice(names), draw.randint(1, 10)) for at in range(sources))


def stands(net, bus):
    """Return the breakers that stand at a bus, ascending."""
    return tuple(breaker for breaker in breakers_of(net) if apart.bus_of(net, breaker) == bus)


def look(draw, net):
    """Return what a guard of a net may look at."""
    breakers = breakers_of(net)
    kind = draw.choice(("over", "over", "reach", "difference", "behind"))
    bound = pair(draw.randint(1, 30), draw.choice((1, 1, 2, 10, 50, 100)))
    if kind == "over":
        return (kind, draw.choice(breakers), bound, draw.random() < 0.5)
    if kind == "reach":
        return (kind, draw.choice(breakers), bound)
    if kind == "difference":
        return (kind, draw.choice(list(net[0]) + [line[0] for line in net[1]]), bound)
    return (kind, draw.choice(breakers))


def some_of(draw, things, most):
    """Return one to so many of some things, ascending."""
    return tuple(sorted(draw.sample(things, draw.randint(1, min(most, len(things))))))


def rules(draw, ticks):
    """Return the rules of a net."""
    least = draw.randint(1, 3)
    return (draw.choice(((0, 1), (1, 10), (1, 4), (1, 2))), least, draw.randint(least, 3), ticks)


def wild_net(draw, guards=6):
    """Return a net whose guards do anything."""
    buses = draw.randint(1, 3)
    net = grid(draw, buses, 0 if buses == 1 else draw.randint(1, buses + 1), draw.randint(1, 2))
    told = tuple((f"q{at}", look(draw, net), draw.randint(0, 4), some_of(draw, breakers_of(net), 3))
                 for at in range(draw.randint(0, guards)))
    return (*net, told, rules(draw, draw.randint(1, 8)))


def hazy_net(draw, guards=5):
    """Return a net many of whose guards see perhaps of some of its faults."""
    buses = draw.randint(1, 2)
    net = grid(draw, buses, 0 if buses == 1 else draw.randint(1, 2), draw.randint(1, 2))
    error = draw.choice((Fraction(1, 4), Fraction(1, 2), Fraction(9, 10)))
    told = []
    for at in range(draw.randint(1, guards)):
        fault = draw.choice(faults_of(net))
        volts, into, whole = apart.currents(net, (), fault, Fraction(draw.randint(1, 9), 10))
        breaker = draw.choice(breakers_of(net))
        kind = draw.choice(("over", "over", "reach", "difference", "behind"))
        if kind == "over":
            seen = (kind, breaker, near(abs(into[breaker]), draw), draw.random() < 0.3)
        elif kind == "reach":
            seen = (kind, breaker, near(volts[apart.bus_of(net, breaker)] / into[breaker] if into[breaker] > 0 else 1, draw))
        elif kind == "difference":
            seen = (kind, fault[1], near(whole, draw))
        else:
            seen = (kind, breaker)
        told.append((f"q{at}", seen, draw.randint(0, 2), some_of(draw, breakers_of(net), 2)))
    _, least, most, ticks = rules(draw, draw.randint(1, 8))
    return (*net, tuple(told), ((error.numerator, error.denominator), least, most, ticks))


def net_of_all_kinds(draw):
    """Return a net of any size that is taken, whose names, numbers and guards are anything."""
    buses = draw.randint(1, 6)
    net = grid(draw, buses, 0 if buses == 1 else draw.randint(0, 8), draw.randint(1, 3))
    told = []
    for at in range(draw.randint(0, 16)):
        kind, part, *more = look(draw, net)
        if more:
            more[0] = pair(draw.randint(1, 1000), draw.randint(1, 1000))
        told.append((f"q{at}", (kind, part, *more), draw.randint(0, 20), some_of(draw, breakers_of(net), 4)))
    least = draw.randint(1, 6)
    error = pair(draw.randint(0, 999), 1000)
    return (*net, tuple(told), (error, least, draw.randint(least, 6), draw.randint(1, 40)))


def kept_net(draw, buses=None):
    """Return a net all of whose parts are guarded twice, and all of whose breakers have one that stands behind them."""
    buses = buses or draw.randint(1, 3)
    # With more lines than two it would have more guards than a net that is taken.
    net = grid(draw, buses, 0 if buses == 1 else draw.randint(buses - 1, max(2, buses - 1)), draw.randint(1, 2))
    told = []
    parts = [(line[0], ((line[0], 0), (line[0], 1))) for line in net[1]]
    parts += [(bus, stands(net, bus)) for bus in net[0] if stands(net, bus)]
    for part, opens in parts:
        for _ in range(2):
            told.append((f"d{len(told)}", ("difference", part, TINY), 0, opens))
    least = draw.randint(1, 2)
    most = draw.randint(least, 2)
    for name, one, other, _ in net[1]:
        for breaker, bus in (((name, 0), one), ((name, 1), other)):
            opens = {*stands(net, bus), (name, 0), (name, 1)} - {breaker}
            told.append((f"f{len(told)}", ("behind", breaker), most + 1, tuple(sorted(opens))))
    return (*net, tuple(told), (draw.choice(((0, 1), (1, 10), (1, 4))), least, most, draw.randint(8, 12)))


def spoiled_net(draw, buses=None):
    """Return a kept net with some more guards, whose bounds are met right at some places of its lines."""
    net = kept_net(draw, buses)
    while not net[1]:
        net = kept_net(draw, buses)
    told = list(net[3])
    error = Fraction(*net[4][0])
    for at in range(draw.randint(1, max(1, min(3, 16 - len(told))))):
        line = draw.choice(net[1])[0]
        volts, into, whole = apart.currents(net, (), ("line", line), Fraction(draw.randint(1, 39), 40))
        breaker = draw.choice(breakers_of(net))
        side = draw.choice((1 + error, 1 - error, 1))
        kind = draw.choice(("over", "reach", "difference"))
        opens = draw.choice(((breaker,), ((line, 0), (line, 1))))
        if kind == "over" and into[breaker]:
            seen = ("over", breaker, near(abs(into[breaker]) / side, draw), draw.random() < 0.5)
        elif kind == "reach" and into[breaker] > 0:
            seen = ("reach", breaker, near(volts[apart.bus_of(net, breaker)] / into[breaker] / side, draw))
        else:
            seen = ("difference", line, near(max(whole, Fraction(1, 1000)) / side, draw))
        if kind == "difference":
            # It stands in for one of the two that see this line's fault at once.
            told[[guard[1][1] for guard in told].index(line)] = (f"q{at}", seen, 0, ((line, 0), (line, 1)))
        else:
            told.append((f"q{at}", seen, draw.randint(0, 4), opens))
    return (*net[:3], tuple(told), net[4])
