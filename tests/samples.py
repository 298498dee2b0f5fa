"""Nets that several tests ask about."""

from justthepart.nettexts import read_net

TOP = "bus a\nbus b\nline ab a b 10\nsource g a 3\nerror 1/10\nbreaker 1 2\nticks 10\n"
BOTH = """guard d1 difference ab 1/1000 delay 0 opens ab.0 ab.1
guard d2 difference ab 1/1000 delay 0 opens ab.0 ab.1
"""
LATE = """guard f0 behind ab.0 delay 2 opens ab.1 g
guard e1 difference a 1/1000 delay 0 opens ab.0 g
guard e2 difference a 1/1000 delay 0 opens ab.0 g
"""
LAST = "guard z1 difference b 1/1000 delay 0 opens ab.1\nguard z2 reach ab.0 12 delay 4 opens ab.0"

# The net of the document's example: it is selective.
EXAMPLE = read_net(TOP + BOTH + LATE + LAST)

# All kinds of guards, at both ends and at a source, two lines between the same buses, and a bus without a line.
KINDS = read_net("""
bus a
bus b
bus c
bus lone
line ab a b 4
line twin b a 6
line bc b c 3
source g a 1
source h c 2
error 1/4
breaker 1 3
ticks 9
guard q1 over ab.0 1/3 delay 1 opens ab.0
guard q2 over twin.1 1/3 forward delay 2 opens twin.1
guard q3 over g 3/20 delay 3 opens g
guard q4 reach bc.1 7/2 delay 0 opens bc.0 bc.1
guard q5 reach h 2 delay 20 opens h
guard q6 difference ab 1/5 delay 0 opens ab.0 ab.1
guard q7 difference b 1/5 delay 0 opens ab.1 bc.0 twin.0
guard q8 behind ab.1 delay 4 opens bc.0
guard q9 behind g delay 5 opens ab.0
""")

# A village on its own: one bus, two sources.
VILLAGE = (("a",), (), (("g", "a", 2), ("h", "a", 5)),
           (("e1", ("difference", "a", (1, 9)), 1, (("g", 0), ("h", 0))),
            ("e2", ("difference", "a", (1, 9)), 0, (("g", 0), ("h", 0)))), ((0, 1), 1, 1, 4))


def with_guards(net, guards):
    """Return a net with other guards."""
    return (*net[:3], tuple(guards), net[4])


def with_rules(net, error=None, least=None, most=None, ticks=None):
    """Return a net with other rules."""
    rules = [old if new is None else new for old, new in zip(net[4], (error, least, most, ticks))]
    return (*net[:4], tuple(rules))


def breakers_of(net):
    """Return all breakers of a net, ascending."""
    lines = [(line[0], end) for line in net[1] for end in (0, 1)]
    return sorted(lines + [(source[0], 0) for source in net[2]])


def faults_of(net):
    """Return all faults of a net."""
    return [("bus", bus) for bus in net[0]] + [("line", line[0]) for line in net[1]]


class Awkward:
    """A thing that lets nothing be asked of it."""

    def refuse(self, *told):
        raise RuntimeError("asked")

    __eq__ = __ne__ = __len__ = __iter__ = __getitem__ = __bool__ = __lt__ = __gt__ = refuse
    __hash__ = __int__ = __index__ = __str__ = __repr__ = refuse


def strange_things():
    """Return things of all kinds that are nothing of what the package tells."""
    endless = []
    endless.append(endless)
    nested = ()
    for _ in range(2000):
        nested = (nested,)
    things = [None, True, False, 0, 1, -1, 10 ** 5000, 0.5, float("nan"), 1j, "", "a", "net", b"a", b""]
    things += [(), [], {}, set(), frozenset(), range(3), object(), int, len, Awkward(), endless, nested]
    return things + [(Awkward(),) * 2, (Awkward(),) * 4, (Awkward(),) * 5, ((),) * 5, (None,) * 5, [()] * 5]


def changed(thing, path, new):
    """Return a tuple with another thing at a path of indexes."""
    if not path:
        return new
    at = path[0]
    return (*thing[:at], changed(thing[at], path[1:], new), *thing[at + 1:])


def paths_of(thing):
    """Return all paths to things within tuples of tuples."""
    out = [()]
    if isinstance(thing, tuple):
        for at, part in enumerate(thing):
            out.extend((at, *path) for path in paths_of(part))
    return out


def at_path(thing, path):
    """Return what stands at a path."""
    for at in path:
        thing = thing[at]
    return thing


TURNING = """
bus a
bus b
bus c
line l1 a b 4
line m1 a c 2
line m2 b c 2
source g a 2
source h b 2
source k c 1
error 0
breaker 1 1
ticks 24
"""


def turning_net(one="4/9", other="2/9", last="8/23"):
    """Return a net that goes astray only for faults at 1/4 of l1, and only if the guard d fails.

    The guards n1 and n2 see surely from 0 to 1/4 and from 1/4 to 1, by currents that are met right at 1/4; either
    of them opens a source, as it may. Only if both of them do so comes enough from the third source for w to see.
    """
    rows = ["guard d difference l1 1/1000 delay 0 opens l1.0 l1.1", "guard z difference l1 1/1000 delay 18 opens l1.0 l1.1",
            f"guard n1 over l1.0 {one} delay 6 opens g", f"guard n2 over l1.1 {other} delay 6 opens h",
            f"guard w over k {last} delay 5 opens k"]
    rows += [f"guard x{at} difference m1 1/1000 delay 0 opens m1.0 m1.1" for at in (1, 2)]
    rows += [f"guard y{at} difference m2 1/1000 delay 0 opens m2.0 m2.1" for at in (1, 2)]
    for bus, opens in (("a", "l1.0 m1.0 g"), ("b", "l1.1 m2.0 h"), ("c", "m1.1 m2.1 k")):
        rows += [f"guard {bus}{at} difference {bus} 1/1000 delay 0 opens {opens}" for at in (1, 2)]
        for breaker in opens.split()[:2]:
            far = breaker[:3] + {"0": "1", "1": "0"}[breaker[3]]
            rows.append(f"guard f{breaker[:2]}{breaker[3]} behind {breaker} delay 1 opens {opens.replace(breaker, far)}")
    # So many guards are beyond the limit of nets that are taken, though not beyond what may be judged.
    nets = [read_net(TURNING + "\n".join(some)) for some in (rows[:10], rows[10:])]
    return with_guards(nets[0], nets[0][3] + nets[1][3])
