"""The document's rules of rooms once more, for the tests: written apart from the package, each choice gone through."""

from itertools import product

import apart

MOST_ENDS = 1000


def cases_of(net, room):
    """Return all cases."""
    fails = [None]
    fails += [("guard", guard[0]) for guard in net[3]]
    fails += [("channel", channel[0]) for channel in room[0]]
    fails += [("breaker", (line[0], end)) for line in net[1] for end in (0, 1)]
    return [(one, False) for one in fails] + [(one, True) for one in fails if room[5]]


def beginning_of(room):
    """Return the standing with which runs begin."""
    cells = []
    for _, what in room[1]:
        cells.append((0, 0) if what[0] == "timer" else 0)
    return ((), tuple(cells), tuple((0,) * channel[2] for channel in room[0]), (), 0)


def tell_lets(room, eyes, brought, opened, cells):
    """Return (tells, cells): what all names tell on a tick, and what lets keep behind it."""
    tells = dict(eyes)
    kept = []
    for (name, (kind, *more)), cell in zip(room[1], cells):
        then = 0
        if kind == "and":
            tells[name] = int(all(tells[other] for other in more[0]))
        elif kind == "or":
            tells[name] = int(any(tells[other] for other in more[0]))
        elif kind == "not":
            tells[name] = 1 - tells[more[0]]
        elif kind == "timer":
            other, on, off = more
            held, left = cell
            held = min(held + 1, on + 1) if tells[other] else 0
            if held > on:
                tells[name], left = 1, off
            elif left > 0:
                tells[name], left = 1, left - 1
            else:
                tells[name] = 0
            then = (held, left)
        elif kind == "latch":
            if tells[more[1]]:
                then = 0
            elif tells[more[0]]:
                then = 1
            else:
                then = cell
            tells[name] = then
        elif kind == "got":
            tells[name] = brought[more[0]]
        else:
            tells[name] = int(more[0] in opened)
        kept.append(then)
    return tells, tuple(kept)


class RoomFault:
    """A fault at one place in a net with a room, in a case, and what may happen."""

    def __init__(self, net, room, fault, place, case, here=None):
        self.net, self.room, self.fault = net, room, fault
        self.failing, self.is_passing = case
        self.here = here or apart.Fault(net, fault, place)
        self.known = {}

    def is_gone(self, standing):
        return self.is_passing and standing[4] >= self.room[5]

    def burns(self, opened):
        return bool(apart.sign(self.here.currents(opened)[2]))

    def followers(self, standing):
        """Return the set of all standings that may follow."""
        if standing not in self.known:
            self.known[standing] = self.followers_of(standing)
        return self.known[standing]

    def followers_of(self, standing):
        net, (channels, _, sends, orders, shuts, gone) = self.net, self.room
        opened, cells, pasts, ages, still = standing
        _, least, most, _ = net[4]
        waits = {breaker for breaker, _ in ages}
        sights = self.here.sees(opened, waits, self.failing)
        if self.is_gone(standing):
            sights = [0] * len(net[3])
        eyes = [{0: [0], 1: [0, 1], 2: [1]}[sight] for sight in sights]
        hears = []
        for (name, soon, late), past in zip(channels, pasts):
            hears.append([0] if self.failing == ("channel", name) else [past[away - 1] for away in range(soon, late + 1)])
        fates = []
        for breaker, age in ages:
            stuck = self.failing == ("breaker", breaker)
            fates.append([False] if stuck else [fate for fate in (False, True)
                                                if (age + 1 >= least if fate else age + 1 < most)])
        if not self.is_passing:
            then_still = 0
        elif still >= gone:
            then_still = gone
        else:
            then_still = 0 if self.burns(opened) else still + 1
        out = set()
        for looks, news in product(product(*eyes), product(*hears)):
            tells, kept = tell_lets(self.room, zip([guard[0] for guard in net[3]], looks),
                                    {channel[0]: bit for channel, bit in zip(channels, news)}, opened, cells)
            sent = {channel: tells[name] for channel, name in sends}
            told = tuple((sent.get(channel[0], 0),) + past[:channel[2] - 1] for channel, past in zip(channels, pasts))
            wanted = {breaker for breaker, name in orders if tells[name]}
            back = {breaker for breaker, name in shuts if tells[name]} - wanted
            for opens in product(*fates):
                now = set(opened) - back
                old = {}
                for (breaker, age), is_open in zip(ages, opens):
                    if is_open:
                        now.add(breaker)
                    else:
                        old[breaker] = min(age + 1, most)
                for breaker in wanted:
                    if breaker not in opened and breaker not in waits:
                        old[breaker] = 0
                out.add((tuple(sorted(now)), kept, told, tuple(sorted(old.items())), then_still))
        return out

    def allowed(self):
        """Return the set of the breakers that may be open at last."""
        net, room, failing = self.net, self.room, self.failing
        if failing is None or failing[0] == "channel":
            return self.here.allowed(None)
        if failing[0] == "breaker":
            return self.here.allowed(failing)
        hang = {failing[1]}
        for _ in range(1 + len(room[1])):
            sent = {channel for channel, name in room[2] if name in hang}
            for name, (kind, *more) in room[1]:
                if kind in ("and", "or"):
                    asked = set(more[0])
                elif kind in ("not", "timer"):
                    asked = {more[0]}
                elif kind == "latch":
                    asked = set(more)
                else:
                    asked = set()
                if asked & hang or kind == "got" and more[0] in sent:
                    hang.add(name)
        out = self.here.allowed(None)
        for breaker, name in room[3]:
            if name in hang:
                out |= apart.at_bus(net, apart.bus_of(net, breaker))
                if breaker[0] in [line[0] for line in net[1]]:
                    out |= {(breaker[0], 0), (breaker[0], 1)}
        return out

    def is_quiet(self, standing):
        found, work = {standing}, [standing]
        while work:
            for then in self.followers(work.pop()):
                if then[0] != standing[0]:
                    return False
                if then not in found:
                    found.add(then)
                    work.append(then)
            if len(found) > MOST_ENDS:
                return False
        return True

    def is_right(self, standing):
        opened = standing[0]
        if self.is_passing:
            free = set() if self.failing is None else self.allowed()
            return self.is_gone(standing) and set(opened) <= free and self.is_quiet(standing)
        return set(opened) <= self.allowed() and not self.burns(opened) and self.is_quiet(standing)

    def lots(self):
        """Return the list of the sets of standings behind each tick."""
        out = [{beginning_of(self.room)}]
        for _ in range(self.net[4][3]):
            out.append(set().union(*(self.followers(standing) for standing in out[-1])))
        return out

    def is_saved(self):
        """Return whether all runs end well."""
        return all(self.is_right(standing) for standing in self.lots()[-1])


def is_room_run(net, room, fault, place, case, run):
    """Return whether standings are a run of all ticks from the beginning on."""
    here = RoomFault(net, room, fault, place, case)
    if len(run) != net[4][3] + 1 or run[0] != beginning_of(room):
        return False
    return all(then in here.followers(standing) for standing, then in zip(run, run[1:]))
