"""Texts of nets: reading and writing them."""

from justthepart.errors import BadText
from justthepart.nets import check_net
from justthepart.rows import rows_of

ONCE = ("error", "breaker", "ticks")


def read_bus(row, lines):
    """Read the rest of a bus row."""
    return row.read_name()


def read_line(row, lines):
    """Read the rest of a line row."""
    return (row.read_name(), row.read_name(), row.read_name(), row.read_number())


def read_source(row, lines):
    """Read the rest of a source row."""
    return (row.read_name(), row.read_name(), row.read_number())


def read_error(row, lines):
    """Read the rest of an error row."""
    return row.read_fraction()


def read_times(row, lines):
    """Read the rest of a breaker row."""
    return (row.read_number(), row.read_number())


def read_ticks(row, lines):
    """Read the rest of a ticks row."""
    return row.read_number()


def read_guard(row, lines):
    """Read the rest of a guard row, lines being the names of the lines that were told ahead."""
    name = row.read_name()
    told = read_told(row, lines)
    delay = row.read_number()
    row.read_word(("opens",))
    opens = [row.read_breaker(lines)]
    while not row.is_over():
        opens.append(row.read_breaker(lines))
    return (name, told, delay, tuple(sorted(opens)))


def read_told(row, lines):
    """Read what a guard looks at, and the word delay behind it."""
    kind = row.read_word(("over", "reach", "difference", "behind"))
    part = row.read_name() if kind == "difference" else row.read_breaker(lines)
    if kind == "behind":
        row.read_word(("delay",))
        return (kind, part)
    bound = row.read_fraction()
    if kind != "over":
        row.read_word(("delay",))
        return (kind, part, bound)
    is_forward = row.read_word(("forward", "delay")) == "forward"
    if is_forward:
        row.read_word(("delay",))
    return (kind, part, bound, is_forward)


READERS = {
    "bus": read_bus,
    "line": read_line,
    "source": read_source,
    "error": read_error,
    "breaker": read_times,
    "ticks": read_ticks,
    "guard": read_guard,
}


def read_row(row, told):
    """Read a row that tells something, to what the rows ahead told by their words."""
    word = row.read_word([word for word in READERS if not (word in ONCE and told[word])])
    reader = READERS[word]
    told[word].append(reader(row, [line[0] for line in told["line"]]))
    row.finish_line()


def read_net(text):
    """Return the net that a text tells; raise BadText or BadNet for any thing that tells none."""
    if not isinstance(text, str):
        raise BadText(0, 0)
    told = {word: [] for word in READERS}
    rows = rows_of(text)
    for row in rows:
        if not row.is_over():
            read_row(row, told)
    if not all([told[word] for word in ONCE]):
        rows[-1].refuse_end()
    parts = [tuple(told[word]) for word in ("bus", "line", "source", "guard")]
    net = (*parts, (told["error"][0], *told["breaker"][0], told["ticks"][0]))
    check_net(net)
    return net


def net_text(net):
    """Return a text that read_net reads as a net."""
    buses, lines, sources, guards, (error, least, most, ticks) = net
    rows = [f"bus {bus}" for bus in buses]
    rows.extend([f"line {name} {one} {other} {resistance}" for name, one, other, resistance in lines])
    rows.extend([f"source {name} {bus} {resistance}" for name, bus, resistance in sources])
    rows.append(f"error {fraction_text(error)}")
    rows.append(f"breaker {least} {most}")
    rows.append(f"ticks {ticks}")
    rows.extend([guard_text(net, guard) for guard in guards])
    return "\n".join(rows)


def fraction_text(number):
    """Return the text of a fraction."""
    n, d = number
    return f"{n}" if d == 1 else f"{n}/{d}"


def breaker_text(net, breaker):
    """Return the text of a breaker of a net."""
    name, end = breaker
    return f"{name}.{end}" if name in [line[0] for line in net[1]] else name


def guard_text(net, guard):
    """Return the row of a guard of a net."""
    name, told, delay, opens = guard
    words = [f"guard {name} {told_text(net, told)} delay {delay} opens"]
    words.extend([breaker_text(net, breaker) for breaker in opens])
    return " ".join(words)


def told_text(net, told):
    """Return the text of what a guard of a net looks at."""
    kind, part, *more = told
    words = [kind, part if kind == "difference" else breaker_text(net, part)]
    if more:
        words.append(fraction_text(more[0]))
    if kind == "over" and more[1]:
        words.append("forward")
    return " ".join(words)
