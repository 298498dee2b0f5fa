"""The document's rules of arcs once more, for the tests: currents of a fault with a resistance, at one y at a time.

What must hold at each bus, and at the fault, is written down as it stands in the document and solved by elimination.
"""

from fractions import Fraction

import apart


def arc_currents(net, opened, arc, y):
    """Return (volts, into, whole): voltages, currents into breakers and into the fault."""
    fault, place, most = arc
    buses, lines, sources = net[:3]
    resistance = most * y
    fed, ways = apart.fed_buses(net, opened, fault)
    shut = [source for source in sources if (source[0], 0) not in opened]
    parts = []
    if fault[0] == "line":
        name, one, other, x = next(line for line in lines if line[0] == fault[1])
        at = Fraction(*place)
        parts = [((name, 0), one, at * x), ((name, 1), other, (1 - at) * x)]
        parts = [part for part in parts if part[0] not in opened and part[1] in fed]
    arc_bus = "arc" if fault[0] == "line" else fault[1]
    is_live = bool(parts) if fault[0] == "line" else fault[1] in fed
    free = [bus for bus in buses if bus in fed]
    if fault[0] == "line" and is_live:
        free.append("arc")
    rows = []
    for here in free:
        row = {other: 0 for other in free}
        right = 0
        joined = [(one, other, x) for _, one, other, x in ways] + [(bus, "arc", x) for _, bus, x in parts]
        for one, other, x in joined:
            for near, far in ((one, other), (other, one)):
                if near == here:
                    row[here] = row[here] + Fraction(1) / x
                    row[far] = row[far] - Fraction(1) / x
        for _, bus, x in shut:
            if bus == here:
                row[here] = row[here] + Fraction(1, x)
                right = right + Fraction(1, x)
        if is_live and here == arc_bus:
            row[here] = row[here] + 1 / resistance
        rows.append([row[other] for other in free] + [right])
    volts = {bus: Fraction(0) for bus in [*buses, "arc"]}
    volts.update(zip(free, apart.solve(rows)))
    into = {(line[0], end): Fraction(0) for line in lines for end in (0, 1)}
    into.update({(source[0], 0): Fraction(0) for source in sources})
    for name, one, other, x in ways:
        if one in fed:
            into[(name, 0)] = (volts[one] - volts[other]) / x
            into[(name, 1)] = (volts[other] - volts[one]) / x
    for breaker, bus, x in parts:
        into[breaker] = (volts[bus] - volts["arc"]) / x
    for name, bus, x in shut:
        into[(name, 0)] = (1 - volts[bus]) / x
    whole = volts[arc_bus] / resistance if is_live else Fraction(0)
    del volts["arc"]
    return volts, into, whole


class ArcFault(apart.Fault):
    """An arc at one y, and what may happen with it."""

    def __init__(self, net, arc, y):
        apart.Fault.__init__(self, net, arc[0], arc[1])
        self.arc, self.y = arc, apart.number_of(y)

    def currents(self, opened):
        if opened not in self.known:
            self.known[opened] = arc_currents(self.net, opened, self.arc, self.y)
        return self.known[opened]
