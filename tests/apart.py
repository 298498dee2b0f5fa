"""The document's rules once more, for the tests: written apart from the package, by other ways, and slower.

Currents are worked out at one place at a time, in fractions or in numbers a + b * root(square), by
elimination from what must hold at each bus; runs are gone through one by one.
"""

from fractions import Fraction
from itertools import product


class Surd:
    """An exact number a + b * root(square), a and b fractions, square an integer that is no square."""

    def __init__(self, a, b, square):
        self.a, self.b, self.square = Fraction(a), Fraction(b), square

    def same(self, other):
        return other if isinstance(other, Surd) else Surd(other, 0, self.square)

    def __add__(self, other):
        other = self.same(other)
        return Surd(self.a + other.a, self.b + other.b, self.square)

    def __mul__(self, other):
        other = self.same(other)
        a = self.a * other.a + self.b * other.b * self.square
        return Surd(a, self.a * other.b + self.b * other.a, self.square)

    def __neg__(self):
        return Surd(-self.a, -self.b, self.square)

    def __sub__(self, other):
        return self + -self.same(other)

    def __rsub__(self, other):
        return -self + other

    def __truediv__(self, other):
        other = self.same(other)
        norm = other.a * other.a - other.b * other.b * self.square
        return self * Surd(other.a / norm, -other.b / norm, self.square)

    def __rtruediv__(self, other):
        return self.same(other) / self

    __radd__ = __add__
    __rmul__ = __mul__


def sign(number):
    """Return the sign of a fraction or surd."""
    if not isinstance(number, Surd):
        return (number > 0) - (number < 0)
    a, b = number.a, number.b
    if (a >= 0) == (b >= 0) or a == 0 or b == 0:
        return sign(a) or sign(b)
    return sign(a) if a * a > b * b * number.square else sign(b)


def number_of(place):
    """Return the number that a place is."""
    if place[0] != "root":
        return Fraction(*place)
    _, (c0, c1, c2), which = place
    square = c1 * c1 - 4 * c0 * c2
    return Surd(Fraction(-c1, 2 * c2), Fraction(1 if which else -1, 2 * c2), square)


def fed_buses(net, opened, fault):
    """Return the set of the fed buses and the list of the ways."""
    buses, lines, sources = net[:3]
    ways = [line for line in lines
            if ("line", line[0]) != fault and not {(line[0], 0), (line[0], 1)} & set(opened)]
    group = {bus: {bus} for bus in buses}
    for _, one, other, _ in ways:
        joined = group[one] | group[other]
        for bus in joined:
            group[bus] = joined
    return set().union(*(group[bus] for name, bus, _ in sources if (name, 0) not in opened)), ways


def solve(rows):
    """Return the solution of equations, rows of n numbers and a last one, by elimination with any pivots."""
    rows = [list(row) for row in rows]
    for at in range(len(rows)):
        pivot = next(k for k in range(at, len(rows)) if sign(rows[k][at]))
        rows[at], rows[pivot] = rows[pivot], rows[at]
        rows[at] = [number / rows[at][at] for number in rows[at]]
        for k in range(len(rows)):
            if k != at and sign(rows[k][at]):
                rows[k] = [one - rows[k][at] * two for one, two in zip(rows[k], rows[at])]
    return [row[-1] for row in rows]


def currents(net, opened, fault, x):
    """Return (volts, into, whole): voltages, currents into breakers and into the fault, x being a number."""
    buses, lines, sources = net[:3]
    fed, ways = fed_buses(net, opened, fault)
    free = [bus for bus in buses if bus in fed and ("bus", bus) != fault]
    parts = []
    for name, one, other, resistance in lines:
        if ("line", name) == fault:
            parts = [((name, 0), one, x * resistance), ((name, 1), other, (1 - x) * resistance)]
            parts = [part for part in parts if part[0] not in opened and part[1] in fed]
    shut = [source for source in sources if (source[0], 0) not in opened]
    rows = []
    for bus in free:
        row = {other: Fraction(0) for other in free}
        right = Fraction(0)
        for _, one, other, resistance in ways:
            for here, there in ((one, other), (other, one)):
                if here == bus:
                    row[bus] = row[bus] + Fraction(1, resistance)
                    if there in row:
                        row[there] = row[there] - Fraction(1, resistance)
        for _, here, resistance in shut:
            if here == bus:
                row[bus] = row[bus] + Fraction(1, resistance)
                right += Fraction(1, resistance)
        for _, here, resistance in parts:
            if here == bus:
                row[bus] = row[bus] + 1 / resistance
        rows.append([row[other] for other in free] + [right])
    volts = {bus: Fraction(0) for bus in buses}
    volts.update(zip(free, solve(rows)))
    into = {(line[0], end): Fraction(0) for line in lines for end in (0, 1)}
    into.update({(source[0], 0): Fraction(0) for source in sources})
    for name, one, other, resistance in ways:
        if one in fed:
            into[(name, 0)] = (volts[one] - volts[other]) / resistance
            into[(name, 1)] = (volts[other] - volts[one]) / resistance
    for breaker, bus, resistance in parts:
        into[breaker] = volts[bus] / resistance
    for name, bus, resistance in shut:
        into[(name, 0)] = (1 - volts[bus]) / resistance
    if fault[0] == "line":
        whole = into[(fault[1], 0)] + into[(fault[1], 1)]
    else:
        whole = -coming_out(net, into, fault[1])
    return volts, into, whole


def coming_out(net, into, bus):
    """Return what goes from a bus into its lines, less what its sources bring."""
    total = Fraction(0)
    for name, one, other, _ in net[1]:
        if one == bus:
            total = total + into[(name, 0)]
        if other == bus:
            total = total + into[(name, 1)]
    for name, here, _ in net[2]:
        if here == bus:
            total = total - into[(name, 0)]
    return total


def bus_of(net, breaker):
    """Return the bus at which a breaker stands."""
    for line in net[1]:
        if line[0] == breaker[0]:
            return line[1 + breaker[1]]
    return next(source[1] for source in net[2] if source[0] == breaker[0])


def sees(net, told, volts, into, ordered):
    """Return what a guard sees, ordered being the breakers that were ordered, or None for all of them."""
    error = Fraction(*net[4][0])
    kind, part = told[:2]
    if kind == "behind":
        is_ordered = ordered is None or part in ordered
        return 2 if is_ordered and sign(into[part]) else 0
    bound = Fraction(*told[2])
    low, high = bound * (1 - error), bound * (1 + error)
    if kind == "reach":
        flow, volt = into[part], volts[bus_of(net, part)]
        if sign(flow) <= 0 or sign(volt - high * flow) > 0:
            return 0
        return 2 if sign(low * flow - volt) >= 0 else 1
    if kind == "over":
        q = into[part]
    elif part in net[0]:
        q = coming_out(net, into, part)
    else:
        q = into[(part, 0)] + into[(part, 1)]
    if not (kind == "over" and told[3]) and sign(q) < 0:
        q = -q
    if sign(q - high) >= 0:
        return 2
    return 0 if sign(q - low) < 0 else 1


class Fault:
    """A fault at one place, and what may happen with it."""

    def __init__(self, net, fault, place):
        self.net, self.fault = net, fault
        self.x = None if fault[0] == "bus" else number_of(place)
        self.known = {}

    def currents(self, opened):
        if opened not in self.known:
            self.known[opened] = currents(self.net, opened, self.fault, self.x)
        return self.known[opened]

    def sees(self, opened, ordered=None, failing=None):
        volts, into, _ = self.currents(opened)
        return tuple(0 if failing == ("guard", guard[0]) else sees(self.net, guard[1], volts, into, ordered)
                     for guard in self.net[3])

    def followers(self, standing, failing):
        """Return the set of all standings that may follow, each choice of the world gone through."""
        opened, held, ages = standing
        _, least, most, _ = self.net[4]
        ordered = {breaker for breaker, _ in ages}
        out = set()
        counted = []
        for guard, count, sight in zip(self.net[3], held, self.sees(opened, ordered, failing)):
            counted.append({0: [0], 1: [0, count + 1], 2: [count + 1]}[sight])
        fates = []
        for breaker, age in ages:
            if failing == ("breaker", breaker):
                fates.append([False])
            else:
                fates.append([is_open for is_open in (False, True)
                              if (is_open and age + 1 >= least) or (not is_open and age + 1 < most)])
        for counts, opens in product(product(*counted), product(*fates)):
            then = set(opened)
            age_then = {}
            for (breaker, age), is_open in zip(ages, opens):
                if is_open:
                    then.add(breaker)
                else:
                    age_then[breaker] = min(age + 1, most)
            for (_, _, delay, breakers), count in zip(self.net[3], counts):
                if count > delay:
                    for breaker in breakers:
                        if breaker not in opened and breaker not in ordered:
                            age_then[breaker] = 0
            held_then = tuple(min(count, guard[2] + 1) for guard, count in zip(self.net[3], counts))
            out.add((tuple(sorted(then)), held_then, tuple(sorted(age_then.items()))))
        return out

    def allowed(self, failing):
        """Return the set of the breakers that may be open at last."""
        net, (kind, name) = self.net, self.fault
        out = {(name, 0), (name, 1)} if kind == "line" else at_bus(net, name)
        stand_ins = []
        if failing is not None and failing[0] == "guard":
            stand_ins = next(guard[3] for guard in net[3] if guard[0] == failing[1])
        elif failing is not None:
            breaker = failing[1]
            if breaker[0] == name or bus_of(net, breaker) == name:
                stand_ins = [breaker]
        for breaker in stand_ins:
            out |= at_bus(net, bus_of(net, breaker))
            if breaker[0] in [line[0] for line in net[1]]:
                out |= {(breaker[0], 0), (breaker[0], 1)}
        return out

    def is_right(self, standing, failing):
        opened, _, ages = standing
        ordered = {breaker for breaker, _ in ages}
        if any(("breaker", breaker) != failing for breaker in ordered):
            return False
        if any(self.sees(opened, ordered, failing)) or sign(self.currents(opened)[2]):
            return False
        return set(opened) <= self.allowed(failing)

    def lots(self, failing):
        """Return the list of the sets of standings behind each tick."""
        lot = {((), (0,) * len(self.net[3]), ())}
        out = [lot]
        known = {}
        for _ in range(self.net[4][3]):
            for standing in lot:
                if standing not in known:
                    known[standing] = self.followers(standing, failing)
            lot = set().union(*(known[standing] for standing in lot))
            out.append(lot)
        return out

    def is_saved(self, failing):
        """Return whether all runs end well."""
        return all(self.is_right(standing, failing) for standing in self.lots(failing)[-1])


def at_bus(net, bus):
    """Return the set of the breakers at a bus."""
    out = {(source[0], 0) for source in net[2] if source[1] == bus}
    for name, one, other, _ in net[1]:
        if bus in (one, other):
            out |= {(name, 0), (name, 1)}
    return out


def failings_of(net):
    """Return all that may fail."""
    breakers = [(line[0], end) for line in net[1] for end in (0, 1)]
    return [None, *(("guard", guard[0]) for guard in net[3]), *(("breaker", breaker) for breaker in breakers)]


def is_run(net, fault, place, failing, run):
    """Return whether standings are a run of all ticks from the beginning on."""
    here = Fault(net, fault, place)
    if len(run) != net[4][3] + 1 or run[0] != ((), (0,) * len(net[3]), ()):
        return False
    return all(then in here.followers(standing, failing) for standing, then in zip(run, run[1:]))
