"""What else nets are judged for: shorter delays, and lines that are away."""

from justthepart.errors import BadThing
from justthepart.searching import judge


def least_delays(net):
    """Return (late, verdict, whys): a selective net with delays of which none may be a tick less, and why not.

    Raise BadThing for a net that is not selective.
    """
    late, verdict = net, judge(net)
    if verdict[0] != "selective":
        raise BadThing(net)
    many = len(net[3])
    whys = {}
    at = 0
    while len(whys) < many:
        ahead = late
        late, verdict, why = hastened(late, verdict, at)
        if late != ahead:
            # What was found of the other guards was found with another delay of this one.
            whys = {}
        whys[at] = why
        at = (at + 1) % many
    return late, verdict, tuple([whys[at] for at in range(many)])


def hastened(net, verdict, at):
    """Return (net, verdict, why) with a delay of one guard that may be no tick less, why being None for 0."""
    delay = net[3][at][2]
    if delay == 0:
        return net, verdict, None
    less = with_delay(net, at, delay - 1)
    told = judge(less)
    if told[0] != "selective":
        return net, verdict, told
    why = None
    # Runs that go wrong are found sooner than papers are written: so the shortest delays come first.
    for shorter in range(delay - 1):
        least = with_delay(net, at, shorter)
        found = judge(least)
        if found[0] == "selective":
            return least, found, why
        why = found
    return less, told, why


def with_delay(net, at, delay):
    """Return a net with another delay of the guard that is told so far behind the first one."""
    buses, lines, sources, guards, rules = net
    name, told, _, opens = guards[at]
    return (buses, lines, sources, (*guards[:at], (name, told, delay, opens), *guards[at + 1:]), rules)


def without_line(net, name):
    """Return the net without a line, without guards that look at it, and without what is then opened in vain."""
    buses, lines, sources, guards, rules = net
    left = []
    for own, told, delay, opens in guards:
        part = told[1] if told[0] == "difference" else told[1][0]
        rest = tuple([breaker for breaker in opens if breaker[0] != name])
        if rest and part != name:
            left.append((own, told, delay, rest))
    return (buses, tuple([line for line in lines if line[0] != name]), sources, tuple(left), rules)


def judge_all(net):
    """Return the verdicts on a net as it is, told by None, and without each of its lines, told by its name."""
    away = [(line[0], judge(without_line(net, line[0]))) for line in net[1]]
    return ((None, judge(net)), *away)
