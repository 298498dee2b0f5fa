"""What is a relay room of a net: channels, lets, what is sent on channels, orders and shuts, and gone."""

from justthepart.errors import BadRoom
from justthepart.nets import is_ascending, is_breaker, is_name, is_tuple, is_whole_number

ROOM_WORDS = ("channel", "let", "send", "order", "shut", "gone", "and", "or", "not", "timer", "latch", "got", "open")

MOST_CHANNELS = 4
MOST_AWAY = 6
MOST_LETS = 24
MOST_HOLD = 20
MOST_GONE = 10


def is_room(net, thing):
    """Return whether any thing is a room of a net."""
    try:
        check_room(net, thing)
    except BadRoom:
        return False
    return True


def check_room(net, room):
    """Raise BadRoom for any thing that is no room of a net."""
    if not is_tuple(room, 6):
        raise BadRoom("room", "a room is a tuple of channels, lets, sends, orders, shuts and gone")
    channels, lets, sends, orders, shuts, gone = room
    check_many("channels", channels, MOST_CHANNELS)
    check_many("lets", lets, MOST_LETS)
    names = Names(net)
    for channel in channels:
        check_channel(names, channel)
    for let in lets:
        check_let(names, let)
    check_sends(names, sends)
    check_moves(names, "orders", orders)
    check_moves(names, "shuts", shuts)
    if not is_whole_number(gone, 0, MOST_GONE):
        raise BadRoom("gone", "no integer from 0 to 10")


class Names:
    """The names that a room may use: those of the net, and its own ones as far as they are told."""

    def __init__(self, net):
        self.parts = {line[0]: "line" for line in net[1]}
        for source in net[2]:
            self.parts[source[0]] = "source"
        self.eyes = {guard[0]: True for guard in net[3]}
        self.channels = {}
        self.lets = {}

    def check_new(self, kind, thing):
        """Raise BadRoom for what cannot be the name of a channel or let that is told next."""
        if not is_name(thing) or thing in ROOM_WORDS:
            raise BadRoom(kind, "no name")
        if thing in self.eyes:
            raise BadRoom(thing, "the name of a guard")
        if thing in self.channels or thing in self.lets:
            raise BadRoom(thing, "told twice")

    def is_asked(self, thing):
        """Return whether any thing is the name of an eye, or of a let that was told."""
        return isinstance(thing, str) and (thing in self.eyes or thing in self.lets)

    def is_channel(self, thing):
        """Return whether any thing is the name of a channel."""
        return isinstance(thing, str) and thing in self.channels

    def is_what(self, thing):
        """Return whether any thing may be what a let tells."""
        if not (isinstance(thing, tuple) and thing and isinstance(thing[0], str)):
            return False
        kind, *more = thing
        if kind in ("and", "or"):
            return len(more) == 1 and isinstance(more[0], tuple) and more[0] != () and self.are_asked(more[0])
        if kind == "not":
            return len(more) == 1 and self.is_asked(more[0])
        if kind == "timer":
            return len(more) == 3 and self.is_asked(more[0]) and is_hold(more[1]) and is_hold(more[2])
        if kind == "latch":
            return len(more) == 2 and self.are_asked(more)
        if kind == "got":
            return len(more) == 1 and self.is_channel(more[0])
        return kind == "open" and len(more) == 1 and is_breaker(self.parts, more[0])

    def are_asked(self, things):
        """Return whether some things are names of eyes, or of lets that were told."""
        return all([self.is_asked(thing) for thing in things])


def is_hold(thing):
    """Return whether any thing is a number of ticks of a timer."""
    return is_whole_number(thing, 0, MOST_HOLD)


def check_many(kind, things, most):
    """Raise BadRoom for what is no tuple of so many things at most."""
    if not isinstance(things, tuple):
        raise BadRoom(kind, "no tuple")
    if len(things) > most:
        raise BadRoom(kind, f"more than {most} of them")


def check_channel(names, channel):
    """Raise BadRoom for what is no channel; else add its name."""
    if not is_tuple(channel, 3):
        raise BadRoom("channel", "a channel is a tuple of a name, least and most")
    name, least, most = channel
    names.check_new("channel", name)
    if not (is_whole_number(least, 1, MOST_AWAY) and is_whole_number(most, least, MOST_AWAY)):
        raise BadRoom(name, "not 1 <= least <= most <= 6")
    names.channels[name] = True


def check_let(names, let):
    """Raise BadRoom for what is no let; else add its name."""
    if not is_tuple(let, 2):
        raise BadRoom("let", "a let is a tuple of a name and what it tells")
    name, what = let
    names.check_new("let", name)
    if not names.is_what(what):
        raise BadRoom(name, "tells nothing that a let can tell")
    names.lets[name] = True


def check_sends(names, sends):
    """Raise BadRoom for what are no sends."""
    if not isinstance(sends, tuple):
        raise BadRoom("sends", "no tuple")
    for pair in sends:
        if not (is_tuple(pair, 2) and names.is_channel(pair[0]) and names.is_asked(pair[1])):
            raise BadRoom("sends", "no pair of a channel and a name")
    if not is_ascending([pair[0] for pair in sends]):
        raise BadRoom("sends", "they do not ascend, or a channel stands twice")


def check_moves(names, kind, pairs):
    """Raise BadRoom for what are no orders or shuts."""
    if not isinstance(pairs, tuple):
        raise BadRoom(kind, "no tuple")
    for pair in pairs:
        if not (is_tuple(pair, 2) and is_breaker(names.parts, pair[0]) and names.is_asked(pair[1])):
            raise BadRoom(kind, "no pair of a breaker and a name")
    if not is_ascending(pairs):
        raise BadRoom(kind, "they do not ascend, or a pair stands twice")


def as_room(net):
    """Return a room in which each guard of a net is a timer that orders what the guard opens."""
    guards = net[3]
    taken = [guard[0] for guard in guards]
    # Some of so many names are free, however many of them guards have.
    free = [name for name in [f"t{at}" for at in range(2 * len(guards))] if name not in taken]
    lets = []
    orders = []
    for name, guard in zip(free, guards):
        lets.append((name, ("timer", guard[0], guard[2], 0)))
        orders.extend([(breaker, name) for breaker in guard[3]])
    return ((), tuple(lets), (), tuple(sorted(orders)), (), 0)
