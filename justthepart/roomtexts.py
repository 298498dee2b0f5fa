"""Texts of rooms: reading and writing them."""

from justthepart.errors import BadText
from justthepart.nettexts import breaker_text
from justthepart.rooms import ROOM_WORDS, check_room
from justthepart.rows import rows_of


def read_new_name(row):
    """Read the name of a channel or let."""
    row.refuse_words(ROOM_WORDS)
    return row.read_name()


def read_names(row):
    """Read one name or more, up to the end of the line."""
    names = [row.read_name()]
    while not row.is_over():
        names.append(row.read_name())
    return tuple(names)


def read_channel(row, lines):
    """Read the rest of a channel row."""
    return (read_new_name(row), row.read_number(), row.read_number())


def read_let(row, lines):
    """Read the rest of a let row, lines being the names of the lines of the net."""
    name = read_new_name(row)
    kind = row.read_word(("and", "or", "not", "timer", "latch", "got", "open"))
    if kind in ("and", "or"):
        return (name, (kind, read_names(row)))
    if kind == "timer":
        return (name, (kind, row.read_name(), row.read_number(), row.read_number()))
    if kind == "latch":
        return (name, (kind, row.read_name(), row.read_name()))
    return (name, (kind, row.read_breaker(lines) if kind == "open" else row.read_name()))


def read_send(row, lines):
    """Read the rest of a send row."""
    return (row.read_name(), row.read_name())


def read_move(row, lines):
    """Read the rest of an order or shut row, lines being the names of the lines of the net."""
    return (row.read_breaker(lines), row.read_name())


def read_gone(row, lines):
    """Read the rest of a gone row."""
    return row.read_number()


READERS = {
    "channel": read_channel,
    "let": read_let,
    "send": read_send,
    "order": read_move,
    "shut": read_move,
    "gone": read_gone,
}


def read_row(row, lines, told):
    """Read a row that tells something, to what the rows ahead told by their words."""
    word = row.read_word([word for word in READERS if not (word == "gone" and told[word])])
    reader = READERS[word]
    told[word].append(reader(row, lines))
    row.finish_line()


def read_room(net, text):
    """Return the room of a net that a text tells; raise BadText or BadRoom for any thing that tells none."""
    if not isinstance(text, str):
        raise BadText(0, 0)
    lines = [line[0] for line in net[1]]
    told = {word: [] for word in READERS}
    for row in rows_of(text):
        if not row.is_over():
            read_row(row, lines, told)
    ascending = [tuple(sorted(told[word])) for word in ("send", "order", "shut")]
    gone = told["gone"][0] if told["gone"] else 0
    room = (tuple(told["channel"]), tuple(told["let"]), *ascending, gone)
    check_room(net, room)
    return room


def room_text(net, room):
    """Return a text that read_room reads as a room of a net."""
    channels, lets, sends, orders, shuts, gone = room
    rows = [f"channel {name} {least} {most}" for name, least, most in channels]
    rows.extend([f"let {name} {what_text(net, what)}" for name, what in lets])
    rows.extend([f"send {channel} {name}" for channel, name in sends])
    rows.extend([f"order {breaker_text(net, breaker)} {name}" for breaker, name in orders])
    rows.extend([f"shut {breaker_text(net, breaker)} {name}" for breaker, name in shuts])
    rows.append(f"gone {gone}")
    return "\n".join(rows)


def what_text(net, what):
    """Return the text of what a let tells."""
    kind, *more = what
    if kind == "open":
        return f"open {breaker_text(net, more[0])}"
    if kind in ("and", "or"):
        more = more[0]
    return " ".join([kind, *[f"{part}" for part in more]])
