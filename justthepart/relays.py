"""What a relay room does on a tick of what its eyes and channels bring.

The world may choose much of what is brought; all of its choices are worked out at once. Whatever is brought or told
is an integer, its MASK, in which each bit stands for one choice in all: it is 1 if 1 is brought or told then.
"""

# With more things to choose among than this, masks would be very long: then some are worked out one after another.
MOST_FREE = 10


def masks_of(options):
    """Return (full, masks): the mask of what is 1 in each choice, and one of each thing, told what it may be."""
    free = [option for option in options if len(option) > 1]
    full = (1 << (1 << len(free))) - 1
    out = []
    done = 0
    for option in options:
        if len(option) > 1:
            # Half of the choices, in runs of so many: of the first thing each other one.
            run = 1 << done
            out.append(full // ((1 << run) + 1) << run)
            done += 1
        else:
            out.append(full if option[0] else 0)
    return full, out


def parted(full, masks):
    """Return a list of masks: of choices that agree in all of some masks, each of these together."""
    parts = [full]
    for mask in masks:
        if mask not in (0, full):
            parts = [some for part in parts for some in (part & mask, part & (full ^ mask)) if some]
    return parts


def any_of(told, places):
    """Return the mask of what is told at some of these places."""
    mask = 0
    for place in places:
        mask = mask | told[place]
    return mask


def all_of(told, places, full):
    """Return the mask of what is told at all of these places."""
    mask = full
    for place in places:
        mask = mask & told[place]
    return mask


def grouped(pairs, places):
    """Return a dict of the breakers in pairs of a breaker and a name, into the places of the names."""
    out = {}
    for breaker, name in pairs:
        out.setdefault(breaker, []).append(places[name])
    return out


def timer_cells(what, cell):
    """Return what a timer keeps behind a tick on which it is told 1, and behind one on which it is not."""
    _, _, on, off = what
    held, left = cell
    less = max(left - 1, 0)
    return ((on + 1, off) if held >= on else (held + 1, less)), (0, less)


class Relays:
    """The room of a net, with a place for each eye, each channel and each let, in this order."""

    def __init__(self, net, room):
        channels, lets, sends, orders, shuts, _ = room
        places = {}
        for guard in net[3]:
            places[guard[0]] = len(places)
        heard = {channel[0]: len(places) + at for at, channel in enumerate(channels)}
        self.first = len(places) + len(channels)
        for at, (name, _) in enumerate(lets):
            places[name] = self.first + at
        self.lets = [placed(what, places, heard) for _, what in lets]
        senders = {channel: places[name] for channel, name in sends}
        self.senders = [senders.get(channel[0]) for channel in channels]
        self.orders = grouped(orders, places)
        self.shuts = grouped(shuts, places)
        self.asked = self.asked_places()

    def asked_places(self):
        """Return a dict of the places that something hangs on: all that is sent, ordered, shut or kept."""
        out = {place: True for place in self.senders if place is not None}
        for places in list(self.orders.values()) + list(self.shuts.values()):
            out.update({place: True for place in places})
        for at, what in reversed(list(enumerate(self.lets))):
            if what[0] in ("timer", "latch") or self.first + at in out:
                out.update({place: True for place in places_asked(what)})
        return out

    def told_by(self, what, cell, told, opened, full):
        """Return the mask of what a let tells, told being the masks of all places ahead of it."""
        kind = what[0]
        if kind == "and":
            return all_of(told, what[1], full)
        if kind == "or":
            return any_of(told, what[1])
        if kind == "not":
            return full ^ told[what[1]]
        if kind == "timer":
            held, left = cell
            if left > 0:
                return full
            return told[what[1]] if held >= what[2] else 0
        if kind == "latch":
            return (full if cell else told[what[1]]) & (full ^ told[what[2]])
        if kind == "got":
            return told[what[1]]
        return full if what[1] in opened else 0

    def outcomes(self, standing, options):
        """Return a list of (cells, pasts, ordered, shut), each once, that a tick may come to behind a standing.

        An option tells what an eye, or a channel, may bring: (0,), (1,) or (0, 1).
        """
        free = [at for at, option in enumerate(options) if len(option) > 1]
        if len(free) > MOST_FREE:
            at = free[0]
            ones = [self.outcomes(standing, [*options[:at], (bit,), *options[at + 1:]]) for bit in (0, 1)]
            return list({outcome: True for one in ones for outcome in one})
        _, cells, pasts, _, _ = standing
        full, told = masks_of(options)
        for what, cell in zip(self.lets, cells):
            told.append(self.told_by(what, cell, told, standing[0], full))
        rows = self.rows_of(cells, told)
        sent = [0 if place is None else told[place] for place in self.senders]
        ordered, shut = self.moved(standing, told, full)
        masks = [row[0] for row in rows] + sent + list(ordered.values()) + list(shut.values())
        out = []
        for part in parted(full, masks):
            # Choices that agree in all of these come to the same: one of them stands for all.
            bit = part & -part
            kept = tuple([one if mask & bit else other for mask, one, other in rows])
            known = tuple([(1 if mask & bit else 0, *past[:-1]) for mask, past in zip(sent, pasts)])
            out.append((kept, known, marked(ordered, bit), marked(shut, bit)))
        return out

    def rows_of(self, cells, told):
        """Return for each let (mask, one, other): what it keeps behind a tick where the mask is 1, and elsewhere."""
        out = []
        for at, cell in enumerate(cells):
            what = self.lets[at]
            if what[0] == "timer":
                one, other = timer_cells(what, cell)
                out.append((told[what[1]], one, other))
            else:
                out.append((told[self.first + at] if what[0] == "latch" else 0, 1, 0))
        return out

    def moved(self, standing, told, full):
        """Return (ordered, shut): dicts of the breakers that may be, into masks."""
        opened, _, _, ages, _ = standing
        waiting = [breaker for breaker, _ in ages]
        ordered = {}
        for breaker in self.orders:
            if breaker not in opened and breaker not in waiting:
                ordered[breaker] = any_of(told, self.orders[breaker])
        shut = {}
        for breaker in self.shuts:
            if breaker in opened:
                against = any_of(told, self.orders.get(breaker, []))
                shut[breaker] = any_of(told, self.shuts[breaker]) & (full ^ against)
        return ordered, shut


def placed(what, places, heard):
    """Return what a let tells, with places for names."""
    kind, *more = what
    if kind in ("and", "or"):
        return (kind, [places[name] for name in more[0]])
    if kind == "not":
        return (kind, places[more[0]])
    if kind == "timer":
        return (kind, places[more[0]], more[1], more[2])
    if kind == "latch":
        return (kind, places[more[0]], places[more[1]])
    return (kind, heard[more[0]] if kind == "got" else more[0])


def places_asked(what):
    """Return the places that a let asks."""
    kind, *more = what
    if kind in ("and", "or"):
        return more[0]
    if kind == "open":
        return []
    return more if kind == "latch" else more[:1]


def marked(masks, bit):
    """Return a tuple of the keys of masks in which a bit is 1."""
    return tuple([key for key in masks if masks[key] & bit])
