"""Rooms drawn for tests, by a random.Random with a fixed seed."""

from drawn import some_of
from samples import breakers_of


def pairs_of(draw, breakers, names, most):
    """Return some unlike pairs of a breaker and a name, ascending."""
    if not names:
        return ()
    return tuple(sorted({(draw.choice(breakers), draw.choice(names)) for _ in range(draw.randint(0, most))}))


def what_of(draw, net, names, channels):
    """Return what a let may tell, names being those that it may ask."""
    kinds = ["open"] + ["got"] * 3 * bool(channels)
    if names:
        kinds += ["and", "or", "not", "timer", "timer", "latch"]
    kind = draw.choice(kinds)
    if kind in ("and", "or"):
        return (kind, tuple(draw.choice(names) for _ in range(draw.randint(1, 3))))
    if kind == "not":
        return (kind, draw.choice(names))
    if kind == "timer":
        return (kind, draw.choice(names), draw.choice((0, 0, 1, 2, 3)), draw.choice((0, 0, 1, 2, 3)))
    if kind == "latch":
        return (kind, draw.choice(names), draw.choice(names))
    if kind == "got":
        return (kind, draw.choice(channels)[0])
    return (kind, draw.choice(breakers_of(net)))


def wild_room(draw, net, lets=6, channels=2):
    """Return a room that does anything."""
    lines = []
    for at in range(draw.randint(0, channels)):
        least = draw.randint(1, 3)
        lines.append((f"c{at}", least, draw.randint(least, 3)))
    names = [guard[0] for guard in net[3]]
    told = []
    for at in range(draw.randint(0, lets)):
        told.append((f"w{at}", what_of(draw, net, names, lines)))
        names.append(f"w{at}")
    sends = tuple((line[0], draw.choice(names)) for line in lines if names and draw.random() < 0.9)
    breakers = breakers_of(net)
    orders, shuts = pairs_of(draw, breakers, names, 5), pairs_of(draw, breakers, names, 3)
    return (tuple(lines), tuple(told), sends, orders, shuts, draw.choice((0, 0, 1, 2, 3)))


def guards_room(draw, net, late=None, gone=0):
    """Return a room that does what the guards of a net do, some of it over channels, as far as there are some.

    What is sent on a channel comes late: so timers of eyes that look behind a breaker wait the longer for that.
    """
    lines, told, sends, orders = [], [], [], []
    for name, look, delay, opens in net[3]:
        timer = f"t{len(told)}"
        told.append((timer, ("timer", name, delay, 0)))
        if late and len(lines) < 2 and draw.random() < 0.2:
            channel = f"c{len(lines)}"
            lines.append((channel, *late))
            sends.append((channel, timer))
            timer = f"t{len(told)}"
            told.append((timer, ("got", channel)))
        orders += [(breaker, timer) for breaker in opens]
    return (tuple(lines), tuple(told[:24]), tuple(sends), tuple(sorted(orders)), (), gone)


def standing_of(draw, net, room):
    """Return a standing of a net with a room, of which no run may ever come to it."""
    breakers = breakers_of(net)
    opened = some_of(draw, breakers, 3) if draw.random() < 0.6 else ()
    shut = [breaker for breaker in breakers if breaker not in opened]
    ages = some_of(draw, shut, 2) if shut and draw.random() < 0.5 else ()
    cells = []
    for _, what in room[1]:
        if what[0] == "timer":
            cells.append((draw.randint(0, what[2] + 1), draw.randint(0, what[3])))
        else:
            cells.append(draw.randint(0, 1) if what[0] == "latch" else 0)
    pasts = tuple(tuple(draw.randint(0, 1) for _ in range(most)) for _, _, most in room[0])
    return (opened, tuple(cells), pasts, tuple((breaker, draw.randint(0, 3)) for breaker in ages), 0)
