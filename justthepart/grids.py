"""How a net hangs together at a topology, and how far voltages fall for what is taken out of it."""

from math import lcm

from justthepart.solving import solved


def reached(starts, ways):
    """Return a dict of the buses that hang together by ways with some of those to start from."""
    found = {bus: True for bus in starts}
    is_growing = True
    while is_growing:
        is_growing = False
        for line in ways:
            if (line[1] in found) != (line[2] in found):
                found[line[1]] = found[line[2]] = True
                is_growing = True
    return found


def common_multiple(numbers):
    """Return the least common multiple of some integers."""
    least = 1
    for number in numbers:
        least = lcm(least, number)
    return least


class Grid:
    """What conducts in a net with a fault: the ways, the sources that are shut, and the buses that they feed."""

    def __init__(self, net, opened, fault):
        shut = [line for line in net[1] if (line[0], 0) not in opened and (line[0], 1) not in opened]
        self.ways = [line for line in shut if fault != ("line", line[0])]
        self.sources = [source for source in net[2] if (source[0], 0) not in opened]
        self.fed = reached([source[1] for source in self.sources], self.ways)

    def multiple(self):
        """Return the least common multiple of all resistances."""
        return common_multiple([line[3] for line in self.ways] + [source[2] for source in self.sources])

    def drops(self, taps):
        """Return (below, drops): a dict for each tap, a fed bus, of how far voltages fall for a 1 taken out there.

        The numbers are integers over below, which is above 0; at buses that are lacking nothing falls.
        """
        buses = list(reached(taps, self.ways))
        below, columns = solved([self.equation(buses, bus, taps) for bus in buses])
        return below, [{bus: drop for bus, drop in zip(buses, column)} for column in columns]

    def equation(self, buses, bus, taps):
        """Return what tells that as much comes into a bus as goes out of it, times what makes all of it integers."""
        beside = [line for line in self.ways if bus in (line[1], line[2])]
        own = [source[2] for source in self.sources if source[1] == bus]
        scale = common_multiple([line[3] for line in beside] + own)
        flow_at = {other: 0 for other in buses}
        for _, one, other, resistance in beside:
            flow_at[other if one == bus else one] -= scale // resistance
        flow_at[bus] = sum([scale // line[3] for line in beside]) + sum([scale // resistance for resistance in own])
        return list(flow_at.values()) + [scale if bus == tap else 0 for tap in taps]
