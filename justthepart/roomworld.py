"""The world of a relay room: what may happen tick by tick, and how it may end."""

from justthepart.relays import Relays
from justthepart.views import NO
from justthepart.world import Eyes, failings, let_down, moves_of, open_at_last, stuck_breaker

# A standing from which more standings than so many may come, itself counted too, is not quiet.
MOST_ENDS = 1000

# What an eye may tell, by what it sees: surely not, perhaps, surely.
SILENT = (0,)
OPTIONS = ((0,), (0, 1), (1,))


def cases(net, room):
    """Return the list of all cases (failing, is_passing)."""
    channels = [("channel", channel[0]) for channel in room[0]]
    others = failings(net)
    guards = 1 + len(net[3])
    told = others[:guards] + channels + others[guards:]
    return [(failing, is_passing) for is_passing in (False, True) if room[5] > 0 or not is_passing for failing in told]


def room_beginning(room):
    """Return the standing with which runs begin."""
    cells = tuple([(0, 0) if what[0] == "timer" else 0 for _, what in room[1]])
    return ((), cells, tuple([(0,) * most for _, _, most in room[0]]), (), 0)


def room_may_open(net, room, fault, failing):
    """Return a list of the breakers that may be open at last."""
    if failing is None or failing[0] == "channel":
        return open_at_last(net, fault, [])
    if failing[0] == "guard":
        names = hanging_on(room, failing[1])
        return open_at_last(net, fault, [breaker for breaker, name in room[3] if name in names])
    return open_at_last(net, fault, let_down(net, fault, failing))


def hanging_on(room, eye):
    """Return a dict of the names that hang on an eye, through lets and channels."""
    senders = {channel: name for channel, name in room[2]}
    names = {eye: True}
    is_growing = True
    while is_growing:
        is_growing = False
        for name, what in room[1]:
            if name not in names and any([asked in names for asked in names_asked(what, senders)]):
                names[name] = True
                # What is sent on a channel may come to a let ahead.
                is_growing = True
    return names


def names_asked(what, senders):
    """Return the names that a let asks, or what it asks for is sent by, senders being the names sent on channels."""
    kind, *more = what
    if kind in ("and", "or"):
        return list(more[0])
    if kind == "got":
        return [senders[more[0]]] if more[0] in senders else []
    if kind == "open":
        return []
    return more if kind == "latch" else more[:1]


class RoomWorld:
    """All that may happen in a net with a room, with a fault at one place, in a case."""

    def __init__(self, net, room, seen, case):
        failing, self.is_passing = case
        self.seen = seen
        self.eyes = Eyes(net, seen, failing)
        self.relays = Relays(net, room)
        self.spans = self.spans_of(net, room, failing)
        _, self.least, self.most, self.ticks = net[4]
        self.start = room_beginning(room)
        self.gone = room[5]
        self.stuck = stuck_breaker(failing)
        self.free = {}
        if failing is not None or not self.is_passing:
            self.free = {breaker: True for breaker in room_may_open(net, room, seen.fault, failing)}
        self.known = {}
        self.calm = {}

    def spans_of(self, net, room, failing):
        """Return for each channel (first, end) of that part of its past that it may bring; of none if it fails."""
        out = []
        for at, (name, least, most) in enumerate(room[0]):
            is_heard = len(net[3]) + at in self.relays.asked and failing != ("channel", name)
            out.append((least - 1, most) if is_heard else (0, 0))
        return out

    def followers(self, standing):
        """Return the ascending list of all standings that may follow one."""
        return list(self.next_ones(standing))

    def next_ones(self, standing):
        """Return what followers does, but not for the caller to change."""
        if standing not in self.known:
            self.known[standing] = sorted(self.after(standing, self.options(standing), self.moves(standing)))
        return self.known[standing]

    def plain_next(self, standing, is_eager):
        """Return a standing that may follow one: all that may bring a 1 or open does, or nothing of it."""
        options = [option[-1:] if is_eager else option[:1] for option in self.options(standing)]
        moves = self.moves(standing)
        return self.after(standing, options, moves[-1:] if is_eager else moves[:1])[0]

    def options(self, standing):
        """Return a list of what each eye may tell, and each channel bring, as far as something hangs on it."""
        opened, _, pasts, ages, _ = standing
        sights = self.eyes.sights(opened, ages)
        if self.is_gone(standing):
            sights = [NO] * len(sights)
        asked = self.relays.asked
        out = [OPTIONS[sight] if at in asked else SILENT for at, sight in enumerate(sights)]
        for past, (first, end) in zip(pasts, self.spans):
            brought = past[first:end]
            out.append(tuple([bit for bit in (0, 1) if bit in brought]) or SILENT)
        return out

    def moves(self, standing):
        """Return a list of all (opening, ages) that the breakers ordered ahead may come to."""
        return moves_of(standing[3], self.least, self.most, self.stuck)

    def after(self, standing, options, moves):
        """Return a list of the standings that follow one by what may be brought and what breakers may do."""
        opened = standing[0]
        still = self.still_behind(standing)
        out = []
        for cells, pasts, ordered, shut in self.relays.outcomes(standing, options):
            left = [breaker for breaker in opened if breaker not in shut]
            fresh = [(breaker, 0) for breaker in ordered]
            for opening, kept in moves:
                out.append((tuple(sorted([*left, *opening])), cells, pasts, tuple(sorted(kept + fresh)), still))
        return out

    def still_behind(self, standing):
        """Return for how many ticks in a row no current has flowed into a passing fault, behind a tick."""
        if not self.is_passing:
            return 0
        if self.is_gone(standing):
            return self.gone
        return 0 if self.seen.is_burning(standing[0]) else standing[4] + 1

    def is_gone(self, standing):
        """Return whether the fault is gone."""
        return self.is_passing and standing[4] >= self.gone

    def is_lost(self, standing):
        """Return whether no right end can come from a standing any more, as far as this is seen at once."""
        return any([breaker not in self.free and breaker not in self.relays.shuts for breaker in standing[0]])

    def is_quiet(self, standing):
        """Return whether the same few breakers are open at all standings that can come, which are not too many."""
        if standing not in self.calm:
            found = self.all_alike(standing)
            self.calm[standing] = bool(found)
            for other in found:
                # What can come from these can come from the first one, too.
                self.calm[other] = True
        return self.calm[standing]

    def all_alike(self, standing):
        """Return all standings that can come from one, [] if they are too many or other breakers are open at some."""
        found = {standing: True}
        work = [standing]
        while work:
            one = work.pop()
            for other in self.next_ones(one):
                if other not in found:
                    if other[0] != standing[0] or len(found) == MOST_ENDS or self.calm.get(other) is False:
                        return []
                    found[other] = True
                    work.append(other)
        return list(found)

    def is_right(self, standing):
        """Return whether a standing is a right end."""
        opened = standing[0]
        if not all([breaker in self.free for breaker in opened]):
            return False
        if not (self.is_gone(standing) if self.is_passing else not self.seen.is_burning(opened)):
            return False
        return self.is_quiet(standing)
