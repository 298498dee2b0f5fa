"""Records of runs, and what they tell of breakers and of the dark."""

from justthepart.grids import Grid
from justthepart.nettexts import breaker_text, fraction_text
from justthepart.seeing import Seen
from justthepart.views import SURELY
from justthepart.world import World


def record(net, fault, place, failing, run):
    """Return the text of a run: its fault, what fails, and a line for each tick."""
    world = World(net, Seen(net, fault, place), failing)
    rows = [fault_text(fault, place), failing_text(net, failing)]
    rows.extend([tick_text(net, world, standing, then) for standing, then in zip(run, run[1:])])
    return "\n".join(rows)


def fault_text(fault, place):
    """Return the line of a record that tells its fault."""
    kind, name = fault
    return f"fault bus {name}" if kind == "bus" else f"fault line {name} at {place_text(place)}"


def place_text(place):
    """Return the text of a place."""
    if place[0] != "root":
        return fraction_text(place)
    _, (c0, c1, c2), which = place
    side = "higher" if which else "lower"
    return f"root {c0} {c1} {c2} {side}"


def failing_text(net, failing):
    """Return the line of a record that tells what fails."""
    if failing is None:
        return "nothing fails"
    kind, failed = failing
    name = failed if kind == "guard" else breaker_text(net, failed)
    return f"{kind} {name} fails"


def tick_text(net, world, standing, then):
    """Return the line of a tick, from one standing to another one."""
    waiting = [breaker for breaker, _ in standing[2]]
    ordered = [breaker for breaker, _ in then[2] if breaker not in waiting]
    looks = []
    for guard, sight in zip(net[3], world.sights(standing)):
        if sight:
            word = "yes" if sight == SURELY else "perhaps"
            looks.append(f"{guard[0]} {word}")
    sees = " ".join(looks) or "nothing"
    opens = breakers_text(net, fresh(standing[0], then[0]))
    return f"sees {sees}; orders {breakers_text(net, ordered)}; opens {opens}"


def breakers_text(net, breakers):
    """Return the text of some breakers."""
    return " ".join([breaker_text(net, breaker) for breaker in breakers]) or "none"


def fresh(opened, then):
    """Return the breakers that are open at a topology and were not at the one ahead of it."""
    return [breaker for breaker in then if breaker not in opened]


def steps_of(net, fault, place, failing, texts):
    """Return a list of all runs from the beginning on whose ticks are told by these texts."""
    world = World(net, Seen(net, fault, place), failing)
    steps = [{world.start: []}]
    for text in texts:
        steps.append(step_told(net, world, steps[-1], text))
    return runs_through(steps)


def step_told(net, world, step, text):
    """Return a dict of the standings behind a tick that a text tells, into those of the step ahead that they follow."""
    out = {}
    for standing in step:
        for then in world.next_ones(standing):
            if tick_text(net, world, standing, then) == text:
                out.setdefault(then, []).append(standing)
    return out


def runs_through(steps):
    """Return a list of all runs through steps, each a dict of standings into those ahead of them."""
    # From the end on, so that no run is begun that comes to nothing.
    runs = [(standing,) for standing in steps[-1]]
    for step in reversed(steps[1:]):
        runs = [(ahead, *run) for run in runs for ahead in step[run[0]]]
    return runs


def opened_in(run):
    """Return the list of (tick, breaker) of all breakers that opened in a run."""
    out = []
    for at, (standing, then) in enumerate(zip(run, run[1:])):
        out.extend([(at + 1, breaker) for breaker in fresh(standing[0], then[0])])
    return out


def dark_at(net, opened):
    """Return the list of the buses that no source feeds at a topology without a fault."""
    fed = Grid(net, opened, None).fed
    return [bus for bus in net[0] if bus not in fed]
