"""What is a net: buses, lines between them, sources, guards and rules."""

from math import gcd

from justthepart.errors import BadNet
from justthepart.places import is_int

LETTERS = "abcdefghijklmnopqrstuvwxyz"
FIGURES = "0123456789"
SIGNS = "abcdefghijklmnopqrstuvwxyz0123456789"
WORDS = ("bus", "line", "source", "guard", "error", "breaker", "ticks", "over", "reach", "difference", "behind",
         "forward", "delay", "opens")

MOST_SIGNS = 8
MOST_BUSES = 6
MOST_LINES = 8
MOST_SOURCES = 3
MOST_GUARDS = 16
MOST_NUMBER = 1000
MOST_DELAY = 20
MOST_AGE = 6
MOST_TICKS = 40


def is_net(thing):
    """Return whether any thing is a net."""
    try:
        check_net(thing)
    except BadNet:
        return False
    return True


def check_net(net):
    """Raise BadNet for any thing that is no net."""
    if not is_tuple(net, 5):
        raise BadNet("net", "a net is a tuple of buses, lines, sources, guards and rules")
    buses, lines, sources, guards, rules = net
    names = {}
    check_many("buses", buses, 1, MOST_BUSES)
    check_many("lines", lines, 0, MOST_LINES)
    check_many("sources", sources, 1, MOST_SOURCES)
    check_many("guards", guards, 0, MOST_GUARDS)
    for bus in buses:
        add_name(names, bus, "bus")
    for line in lines:
        check_line(names, line)
    for source in sources:
        check_source(names, source)
    for guard in guards:
        check_guard(names, guard)
    check_rules(rules)


def check_many(kind, things, least, most):
    """Raise BadNet for what is no tuple of so many things."""
    if not isinstance(things, tuple):
        raise BadNet(kind, "no tuple")
    if not least <= len(things) <= most:
        raise BadNet(kind, f"not {least} to {most} of them")


def is_tuple(thing, size):
    """Return whether a thing is a tuple of so many things."""
    return isinstance(thing, tuple) and len(thing) == size


def is_whole_number(thing, least, most):
    """Return whether a thing is an integer within bounds."""
    return is_int(thing) and least <= thing <= most


def is_fraction(thing):
    """Return whether a thing is a fraction in least form."""
    if not (is_tuple(thing, 2) and is_int(thing[0]) and is_int(thing[1])):
        return False
    return thing[1] > 0 and gcd(thing[0], thing[1]) == 1


def is_name(thing):
    """Return whether a thing may be a name."""
    if not (isinstance(thing, str) and 1 <= len(thing) <= MOST_SIGNS and thing[0] in LETTERS):
        return False
    return all([sign in SIGNS for sign in thing]) and thing not in WORDS


def is_known(names, thing, *kinds):
    """Return whether a thing is the name of something of one of these kinds."""
    return isinstance(thing, str) and names.get(thing) in kinds


def add_name(names, thing, kind):
    """Raise BadNet for what is no name or was told ahead; else add it, of its kind."""
    if not is_name(thing):
        raise BadNet(kind, "no name")
    if thing in names:
        raise BadNet(thing, "told twice")
    names[thing] = kind


def check_line(names, line):
    """Raise BadNet for what is no line; else add its name."""
    if not is_tuple(line, 4):
        raise BadNet("line", "a line is a tuple of a name, two buses and its X")
    name, one, other, resistance = line
    add_name(names, name, "line")
    if not (is_known(names, one, "bus") and is_known(names, other, "bus")):
        raise BadNet(name, "an end at no bus")
    if one == other:
        raise BadNet(name, "both ends at one bus")
    if not is_whole_number(resistance, 1, MOST_NUMBER):
        raise BadNet(name, "X is no integer from 1 to 1000")


def check_source(names, source):
    """Raise BadNet for what is no source; else add its name."""
    if not is_tuple(source, 3):
        raise BadNet("source", "a source is a tuple of a name, a bus and its X")
    name, bus, resistance = source
    add_name(names, name, "source")
    if not is_known(names, bus, "bus"):
        raise BadNet(name, "at no bus")
    if not is_whole_number(resistance, 1, MOST_NUMBER):
        raise BadNet(name, "X is no integer from 1 to 1000")


def is_breaker(names, thing):
    """Return whether a thing is a breaker of a net whose names are of kinds told."""
    if not (is_tuple(thing, 2) and is_int(thing[1])):
        return False
    name, end = thing
    return end in (0, 1) and is_known(names, name, "line") or end == 0 and is_known(names, name, "source")


def is_ascending(things):
    """Return whether each of some things that can be ordered is greater than the one ahead."""
    return all([one < other for one, other in zip(things, things[1:])])


def check_guard(names, guard):
    """Raise BadNet for what is no guard; else add its name."""
    if not is_tuple(guard, 4):
        raise BadNet("guard", "a guard is a tuple of a name, what it looks at, its delay and what it opens")
    name, told, delay, opens = guard
    add_name(names, name, "guard")
    if not is_told(names, told):
        raise BadNet(name, "looks at nothing that a guard can look at")
    if not is_whole_number(delay, 0, MOST_DELAY):
        raise BadNet(name, "its delay is no integer from 0 to 20")
    if not (isinstance(opens, tuple) and opens and all([is_breaker(names, breaker) for breaker in opens])):
        raise BadNet(name, "opens something else than breakers, or nothing")
    if not is_ascending(opens):
        raise BadNet(name, "the breakers that it opens do not ascend")


def is_told(names, thing):
    """Return whether a thing is what a guard may look at."""
    if not (isinstance(thing, tuple) and thing and isinstance(thing[0], str)):
        return False
    kind, *more = thing
    if kind == "over":
        return len(more) == 3 and is_breaker(names, more[0]) and is_bound(more[1]) and isinstance(more[2], bool)
    if kind == "reach":
        return len(more) == 2 and is_breaker(names, more[0]) and is_bound(more[1])
    if kind == "difference":
        return len(more) == 2 and is_known(names, more[0], "bus", "line") and is_bound(more[1])
    return kind == "behind" and len(more) == 1 and is_breaker(names, more[0])


def is_bound(thing):
    """Return whether a thing may be the F of a guard."""
    return is_fraction(thing) and 0 < thing[0] <= MOST_NUMBER and thing[1] <= MOST_NUMBER


def check_rules(rules):
    """Raise BadNet for what are no rules."""
    if not is_tuple(rules, 4):
        raise BadNet("rules", "rules are a tuple of the error, least, most and ticks")
    error, least, most, ticks = rules
    if not (is_fraction(error) and 0 <= error[0] < error[1] <= MOST_NUMBER):
        raise BadNet("error", "no fraction from 0 on below 1 of a denominator to 1000")
    if not (is_whole_number(least, 1, MOST_AGE) and is_whole_number(most, least, MOST_AGE)):
        raise BadNet("breaker", "not 1 <= least <= most <= 6")
    if not is_whole_number(ticks, 1, MOST_TICKS):
        raise BadNet("ticks", "no integer from 1 to 40")
