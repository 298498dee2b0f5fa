"""What may happen tick by tick, and how it may end."""

from justthepart.parts import buses_of_breakers, line_breakers
from justthepart.views import NO, PERHAPS, SURELY


def beginning(net):
    """Return the standing with which runs begin."""
    return ((), (0,) * len(net[3]), ())


def failings(net):
    """Return the list of all that may fail, None for nothing first."""
    guards = [("guard", guard[0]) for guard in net[3]]
    return [None] + guards + [("breaker", breaker) for breaker in line_breakers(net)]


def breakers_at_bus(net, bus):
    """Return the breakers at a bus: both of each line at it, and those of its sources."""
    lines = [(line[0], end) for line in net[1] if bus in (line[1], line[2]) for end in (0, 1)]
    return lines + [(source[0], 0) for source in net[2] if source[1] == bus]


def may_open(net, fault, failing):
    """Return a list of the breakers that may be open at last."""
    return open_at_last(net, fault, let_down(net, fault, failing))


def open_at_last(net, fault, down):
    """Return a list of the breakers that may be open at last, if others must stand in for some breakers."""
    kind, name = fault
    out = [(name, 0), (name, 1)] if kind == "line" else breakers_at_bus(net, name)
    buses = buses_of_breakers(net)
    for breaker in down:
        # These are the breakers at its line, too, if it is a line's.
        out.extend(breakers_at_bus(net, buses[breaker]))
    return out


def let_down(net, fault, failing):
    """Return the breakers that others must stand in for, as what fails does not open them."""
    if failing is None:
        return []
    word, failed = failing
    if word == "guard":
        return [breaker for guard in net[3] if guard[0] == failed for breaker in guard[3]]
    return [failed] if fault[1] in (failed[0], buses_of_breakers(net)[failed]) else []


def followers(net, seen, standing, failing):
    """Return the ascending list of all standings that may follow one."""
    return World(net, seen, failing).next_ones(standing)


def is_right(net, seen, standing, failing):
    """Return whether a standing is a right end."""
    return World(net, seen, failing).is_right(standing)


def stuck_breaker(failing):
    """Return the breaker that fails, None without one."""
    return failing[1] if failing is not None and failing[0] == "breaker" else None


def moves_of(ages, least, most, stuck):
    """Return a list of all (opening, ages) that the breakers ordered ahead may come to, the fewest opening first."""
    out = [((), [])]
    for breaker, age in ages:
        older = age + 1
        if breaker == stuck:
            out = [(opening, kept + [(breaker, min(older, most))]) for opening, kept in out]
            continue
        stay = [(opening, kept + [(breaker, older)]) for opening, kept in out if older < most]
        leave = [((*opening, breaker), kept) for opening, kept in out if older >= least]
        out = stay + leave
    return out


class Eyes:
    """What the guards see, one of which may fail."""

    def __init__(self, net, seen, failing):
        self.seen = seen
        self.backups = [(at, guard[1][1]) for at, guard in enumerate(net[3]) if guard[1][0] == "behind"]
        self.blind = None
        if failing is not None and failing[0] == "guard":
            self.blind = [guard[0] for guard in net[3]].index(failing[1])

    def sights(self, opened, ages):
        """Return the list of what the guards see, by the topology and what was ordered ahead."""
        sights = list(self.seen.at(opened))
        ordered = [breaker for breaker, _ in ages]
        for at, breaker in self.backups:
            if breaker not in ordered:
                sights[at] = NO
        if self.blind is not None:
            sights[self.blind] = NO
        return sights


class World:
    """All that may happen in a net with a fault at one place and something failing."""

    def __init__(self, net, seen, failing):
        self.seen = seen
        self.guards = net[3]
        self.eyes = Eyes(net, seen, failing)
        _, self.least, self.most, self.ticks = net[4]
        self.start = beginning(net)
        self.stuck = stuck_breaker(failing)
        self.free = {breaker: True for breaker in may_open(net, seen.fault, failing)}
        self.known = {}

    def sights(self, standing):
        """Return the list of what the guards see, by the topology and what was ordered ahead."""
        return self.eyes.sights(standing[0], standing[2])

    def next_ones(self, standing):
        """Return the ascending list of all standings that may follow one."""
        if standing not in self.known:
            self.known[standing] = sorted(self.after(standing, self.sights(standing), self.moves(standing)))
        return self.known[standing]

    def plain_next(self, standing, is_eager):
        """Return a standing that may follow one: guards and breakers that may act all do, or none of them."""
        choice = SURELY if is_eager else NO
        sights = [choice if sight == PERHAPS else sight for sight in self.sights(standing)]
        moves = self.moves(standing)
        return self.after(standing, sights, moves[-1:] if is_eager else moves[:1])[0]

    def moves(self, standing):
        """Return a list of all (opening, ages) that the breakers ordered ahead may come to."""
        return moves_of(standing[2], self.least, self.most, self.stuck)

    def after(self, standing, sights, moves):
        """Return a list of the standings that follow one by what guards see and what breakers may do."""
        opened = standing[0]
        moved = [(tuple(sorted((*opened, *opening))), kept) for opening, kept in moves]
        out = []
        for held in self.counts(standing[1], sights):
            fresh = self.fresh_orders(standing, held)
            out.extend([(then, held, tuple(sorted(kept + fresh))) for then, kept in moved])
        return out

    def counts(self, held, sights):
        """Return a list of all tuples of what the guards may have held behind a tick."""
        most = [min(count, guard[2]) + 1 for count, guard in zip(held, self.guards)]
        out = [[count if sight else 0 for count, sight in zip(most, sights)]]
        for at, sight in enumerate(sights):
            if sight == PERHAPS:
                out = out + [[*row[:at], 0, *row[at + 1:]] for row in out]
        return [tuple(row) for row in out]

    def fresh_orders(self, standing, held):
        """Return a list of the breakers, with their age, that guards order which have held so long."""
        opened, _, ages = standing
        fresh = {}
        for guard, count in zip(self.guards, held):
            if count > guard[2]:
                for breaker in guard[3]:
                    fresh[breaker] = True
        ordered = [breaker for breaker, _ in ages]
        return [(breaker, 0) for breaker in fresh if breaker not in opened and breaker not in ordered]

    def is_allowed(self, opened):
        """Return whether all breakers that are open at a topology may be open at last."""
        return all([breaker in self.free for breaker in opened])

    def is_lost(self, standing):
        """Return whether no right end can come from a standing any more, as far as this is seen at once."""
        return not self.is_allowed(standing[0])

    def is_quiet(self, standing):
        """Return whether no breaker but a failing one is ordered and shut, and no guard sees anything."""
        if any([breaker != self.stuck for breaker, _ in standing[2]]):
            return False
        return not any(self.sights(standing))

    def is_right(self, standing):
        """Return whether a standing is a right end."""
        opened = standing[0]
        return self.is_allowed(opened) and self.is_quiet(standing) and not self.seen.is_burning(opened)
