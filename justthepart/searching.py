"""Judging: going through all runs of all faults, or up to one that goes wrong."""

from justthepart.parts import faults_of
from justthepart.places import FIRST_BITS, ascending, cells_between, sample
from justthepart.seeing import Seen
from justthepart.views import PERHAPS
from justthepart.world import World, failings

WHOLE = ("between", (0, 1), (1, 1))

# All runs may be too many to go through if more guards than this see perhaps at once, or if there are lots of more
# standings than this: then a run or two of each failing are looked at ahead of them.
FEW = 4
MANY = 50

GLANCE = 0
LOOK = 1
FILL = 2


def judge(net):
    """Return ("selective", paper), or ("astray", fault, place, failing, run)."""
    return judged([Search(net, Seen(net, fault, None), failings(net)) for fault in faults_of(net)])


def judged(searches):
    """Return the verdict that some searches, each of another fault, come to."""
    for search in searches:
        search.begin()
    # Most nets that go astray do so at any place, and by plain runs: what takes longest comes last.
    for step in (GLANCE, LOOK, FILL):
        for search in sorted(searches, key=lambda one: one.width):
            search.take(step)
            if search.astray is not None:
                return search.astray
    return ("selective", tuple([row for part in searches for row in part.rows]))


class Search:
    """The search through all runs of one fault, in all cases: of what fails, as far as there is no room."""

    def __init__(self, net, seen, all_cases):
        self.net = net
        self.seen = seen
        self.cases = all_cases
        self.whole = WHOLE if seen.fault[0] == "line" else None
        self.width = 0
        self.kept = [[] for _ in all_cases]
        self.rows = []
        self.astray = None

    def world(self, seen, case):
        """Return the world of a case."""
        return World(self.net, seen, case)

    def begin(self):
        """Take a place of the whole line first."""
        self.seen = self.seen_in(self.whole)
        self.width = width_at(self.seen)

    def seen_in(self, cell):
        """Return what the guards see at a place in a cell, None in a bus."""
        return self.seen.elsewhere(None if cell is None else sample(cell))

    def take(self, step):
        """Take one of the steps of judging."""
        if step == GLANCE:
            self.tell(self.seen, self.glance(self.seen))
        elif step == LOOK:
            self.tell(self.seen, self.look(self.seen)[1])
        else:
            self.fill()

    def tell(self, seen, wrong):
        """Tell that a run of a case goes wrong at a place, if one does."""
        if wrong is not None:
            self.astray = ("astray", seen.fault, seen.place, *wrong)

    def glance(self, seen):
        """Look at plain runs alone, if all may be too many; return (case, run) for one that goes wrong, or None."""
        if width_at(seen) <= FEW:
            return None
        for case in self.cases:
            run = plain_wrong_run(self.world(seen, case))
            if run is not None:
                return (case, run)
        return None

    def look(self, seen):
        """Return (found, None), found being (sights, lots) for each case at a place, or ([], (case, run))."""
        found = []
        for at, case in enumerate(self.cases):
            same = alike(self.kept[at], seen)
            if same is None:
                lots, run = explored(self.world(seen, case))
                if run is not None:
                    return [], (case, run)
                same = (sights_of(lots, seen), tuple_of_lots(lots))
                self.kept[at].append(same)
            found.append(same)
        return found, None

    def looked(self, seen):
        """Return what look does, plain runs being looked at first."""
        wrong = self.glance(seen)
        return self.look(seen) if wrong is None else ([], wrong)

    def fill(self):
        """Fill in the rows of a paper on all cells; up to where a run goes astray, if one does."""
        work = [(self.whole, {})]
        while work:
            cell, split = work.pop()
            seen = self.seen_in(cell)
            found, wrong = self.looked(seen)
            self.tell(seen, wrong)
            if wrong is not None:
                return
            topologies = {opened: True for same in found for opened in same[0] if opened not in split}
            parts = self.parted(cell, topologies)
            if parts:
                split = {opened: True for opened in list(split) + list(topologies)}
                work.extend([(part, split) for part in reversed(parts)])
            else:
                for case, same in zip(self.cases, found):
                    self.rows.append((seen.fault, cell, case, same[1]))

    def parted(self, cell, topologies):
        """Return the cells into which a cell falls where what guards see at topologies changes, [] if it does not."""
        views = self.seen.shared()
        found = {place: True for opened in topologies for place in views.view(opened).places_within(cell)}
        if not found:
            return []
        _, one, other = cell
        return cells_between(one, ascending(list(found), FIRST_BITS), other)


def width_at(seen):
    """Return how many guards see perhaps while nothing is open."""
    return seen.at(()).count(PERHAPS)


def alike(kept, seen):
    """Return the last kept (sights, lots) whose guards see the same, None without one."""
    for same in reversed(kept):
        if all([seen.at(opened) == sight for opened, sight in same[0].items()]):
            return same
    return None


def sights_of(lots, seen):
    """Return a dict of the topologies of all standings in lots, into what guards see at them."""
    topologies = {standing[0]: True for lot in lots for standing in lot}
    return {opened: seen.at(opened) for opened in topologies}


def tuple_of_lots(lots):
    """Return lots as tuples, equal neighbours as one and the same."""
    out = [tuple(lots[0])]
    for lot in lots[1:]:
        now = tuple(lot)
        out.append(out[-1] if now == out[-1] else now)
    return tuple(out)


def explored(world):
    """Return (lots, None), or (None, run) for a run that goes wrong.

    A lot is a dict of the standings that runs come to behind a tick, each into one ahead of it.
    """
    lots = [{world.start: None}]
    while len(lots) <= world.ticks:
        last = lots[-1]
        lot = next_lot(world, last)
        if len(last) <= MANY < len(lot):
            wrong = plain_wrong_run(world)
            if wrong is not None:
                return None, wrong
        lots.append(lot)
        for standing in lot:
            if world.is_lost(standing):
                return None, prolonged(world, run_to(lots, standing), False)
        if len(lot) == len(last) and all(standing in last for standing in lot):
            # Nothing new comes from here on.
            lots.extend([lot] * (world.ticks + 1 - len(lots)))
    for standing in lots[-1]:
        if not world.is_right(standing):
            return None, run_to(lots, standing)
    return lots, None


def next_lot(world, lot):
    """Return the lot behind a lot."""
    out = {}
    for standing in lot:
        for follower in world.next_ones(standing):
            out.setdefault(follower, standing)
    return out


def run_to(lots, standing):
    """Return the run through lots that ends with a standing of the last one."""
    run = []
    for lot in reversed(lots):
        run.append(standing)
        standing = lot[standing]
    return tuple(run[::-1])


def prolonged(world, run, is_eager):
    """Return a run, gone on with until all ticks are over."""
    run = list(run)
    while len(run) <= world.ticks:
        run.append(world.plain_next(run[-1], is_eager))
    return tuple(run)


def plain_wrong_run(world):
    """Return one of the two plainest runs, if it goes wrong, or else None."""
    for is_eager in (False, True):
        run = prolonged(world, [world.start], is_eager)
        if not world.is_right(run[-1]):
            return run
    return None
