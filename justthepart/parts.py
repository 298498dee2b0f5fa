"""What stands where in a net: breakers at buses and lines, and the parts that may be faulty."""


def part_named(parts, name):
    """Return the line or source of a name, among some."""
    return [part for part in parts if part[0] == name][0]


def faults_of(net):
    """Return the faults that a net may have: each bus, then each line."""
    return [("bus", bus) for bus in net[0]] + [("line", line[0]) for line in net[1]]


def line_breakers(net):
    """Return the breakers of the lines of a net in their order, end 0 first."""
    return [(line[0], end) for line in net[1] for end in (0, 1)]


def source_breakers(net):
    """Return the breakers of the sources of a net in their order."""
    return [(source[0], 0) for source in net[2]]


def buses_of_breakers(net):
    """Return a dict of all breakers of a net, into the bus at which each stands."""
    buses = {(line[0], end): line[1 + end] for line in net[1] for end in (0, 1)}
    for name, bus, _ in net[2]:
        buses[(name, 0)] = bus
    return buses


def balance_of(net, part):
    """Return the pairs (sign, breaker) whose currents are what gets lost in a line, or comes out of a bus."""
    if part not in net[0]:
        return [(1, (part, 0)), (1, (part, 1))]
    buses = buses_of_breakers(net)
    outward = [(1, breaker) for breaker in line_breakers(net) if buses[breaker] == part]
    inward = [(-1, breaker) for breaker in source_breakers(net) if buses[breaker] == part]
    return outward + inward
