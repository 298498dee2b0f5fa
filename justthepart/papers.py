"""Judging papers and runs, whoever wrote them."""

from justthepart.errors import BadPaper
from justthepart.nets import is_ascending, is_tuple, is_whole_number
from justthepart.parts import buses_of_breakers, faults_of
from justthepart.places import is_int, is_place, order_of, sample
from justthepart.seeing import Seen
from justthepart.world import World, failings

MOST_COUNT = 99


def is_shown(net, paper):
    """Return whether any thing is a paper that shows a net to be selective."""
    try:
        check_paper(net, paper)
    except BadPaper:
        return False
    return True


def check_paper(net, paper):
    """Raise BadPaper for any thing that is no paper which shows a net to be selective."""
    if not isinstance(paper, tuple):
        raise BadPaper("a paper is a tuple of rows")
    done = 0
    for fault in faults_of(net):
        checker = Checker(net, fault)
        if fault[0] == "bus":
            done = checker.check_rows(paper, done, None)
        else:
            done = check_line(checker, paper, done)
    if done != len(paper):
        raise BadPaper("a row too many")


def check_line(checker, paper, done):
    """Check the rows of all cells of a line, behind so many rows of a paper; return how many are done then."""
    end = (0, 1)
    while True:
        cell = stretch_from(paper, done, end)
        done = checker.check_rows(paper, done, cell)
        end = cell[2]
        if end == (1, 1):
            return done
        done = checker.check_rows(paper, done, ("at", end))


def stretch_from(paper, done, one):
    """Return the stretch of the row behind so many rows of a paper; it must begin at one end."""
    if done >= len(paper) or not is_tuple(paper[done], 4):
        raise BadPaper("a row of a stretch is lacking")
    cell = paper[done][1]
    if not (is_tuple(cell, 3) and is_same(cell[:2], ("between", one))):
        raise BadPaper("a stretch does not begin where the one ahead of it ends")
    if not (is_same(cell[2], (1, 1)) or is_place(cell[2]) and order_of(one, cell[2]) < 0):
        raise BadPaper("a stretch does not end behind where it begins")
    return cell


def is_same(thing, wanted):
    """Return whether any thing is what is wanted: tuples of strings, integers, which bools are not, and None."""
    if isinstance(wanted, tuple):
        return is_tuple(thing, len(wanted)) and all([is_same(one, other) for one, other in zip(thing, wanted)])
    if wanted is None:
        return thing is None
    if isinstance(wanted, str):
        return isinstance(thing, str) and thing == wanted
    return is_int(thing) and thing == wanted


def is_count(thing):
    """Return whether any thing is a number of ticks in a standing."""
    return is_whole_number(thing, 0, MOST_COUNT)


def is_topology(thing, breakers):
    """Return whether any thing is an ascending tuple of some of these breakers."""
    if not isinstance(thing, tuple):
        return False
    for breaker in thing:
        if not (is_tuple(breaker, 2) and isinstance(breaker[0], str) and is_int(breaker[1]) and breaker in breakers):
            return False
    return is_ascending(thing)


def is_standing(thing, breakers, guards):
    """Return whether any thing is formed as a standing of a net with these breakers and so many guards."""
    if not is_tuple(thing, 3):
        return False
    opened, held, ages = thing
    if not (is_topology(opened, breakers) and is_tuple(held, guards) and all([is_count(count) for count in held])):
        return False
    if not (isinstance(ages, tuple) and all([is_tuple(pair, 2) and is_count(pair[1]) for pair in ages])):
        return False
    ordered = tuple([pair[0] for pair in ages])
    return is_topology(ordered, breakers) and not any([breaker in opened for breaker in ordered])


class Checker:
    """The judge of the rows of a paper that tell of one fault."""

    def __init__(self, net, fault):
        self.net = net
        self.fault = fault
        self.seen = Seen(net, fault, None)
        self.failings = failings(net)
        self.breakers = buses_of_breakers(net)
        self.shown = {}

    def check_rows(self, paper, done, cell):
        """Check the rows of a cell, None for a bus, behind so many rows of a paper; return how many are done then."""
        rows = paper[done:done + len(self.failings)]
        if len(rows) < len(self.failings):
            raise BadPaper("rows are lacking")
        seen = self.seen.elsewhere(None if cell is None else sample(cell))
        still = {}
        for row, failing in zip(rows, self.failings):
            if not (is_tuple(row, 4) and is_same(row[:3], (self.fault, cell, failing))):
                raise BadPaper("a row of another fault, cell or failing")
            self.check_form(row[3])
            self.check_still(row[3], cell, still)
            self.check_lots(row[3], seen, failing)
        return done + len(rows)

    def check_form(self, lots):
        """Check that a thing is formed as lots."""
        guards = len(self.net[3])
        if not is_tuple(lots, self.net[4][3] + 1):
            raise BadPaper("not as many lots as ticks, and one more")
        for lot in lots:
            if not isinstance(lot, tuple):
                raise BadPaper("a lot is a tuple of standings")
            for standing in lot:
                if not is_standing(standing, self.breakers, guards):
                    raise BadPaper("a standing is not well formed")

    def check_still(self, lots, cell, still):
        """Check that all that guards see at the topologies of lots, but those known to be still, is so in a cell."""
        views = self.seen.shared()
        for lot in lots:
            for standing in lot:
                opened = standing[0]
                if opened not in still:
                    if views.view(opened).places_within(cell):
                        raise BadPaper("a polynomial is not still")
                    still[opened] = True

    def check_lots(self, lots, seen, failing):
        """Check that lots hold all runs, and that these end well."""
        sights = {standing[0]: seen.at(standing[0]) for lot in lots for standing in lot}
        if self.shown.get(failing) == (lots, sights):
            # As much was shown in the cell ahead, where the guards see the same.
            return
        world = World(self.net, seen, failing)
        if world.start not in lots[0]:
            raise BadPaper("the beginning is not in the first lot")
        for lot, then in zip(lots, lots[1:]):
            known = {standing: True for standing in then}
            for standing in lot:
                if not all([follower in known for follower in world.followers(standing)]):
                    raise BadPaper("a follower is not in the next lot")
        if not all([world.is_right(standing) for standing in lots[-1]]):
            raise BadPaper("a standing of the last lot is no right end")
        self.shown[failing] = (lots, sights)


def goes_astray(net, thing):
    """Return whether any thing is a no, whose run is one of its fault, place and failing and ends wrong."""
    if not (is_tuple(thing, 5) and is_same(thing[0], "astray")):
        return False
    _, fault, place, failing, run = thing
    if not (is_one_of(fault, faults_of(net)) and is_one_of(failing, failings(net))):
        return False
    if not (place is None if fault[0] == "bus" else is_place(place)):
        return False
    breakers = buses_of_breakers(net)
    if not is_tuple(run, net[4][3] + 1):
        return False
    if not all([is_standing(standing, breakers, len(net[3])) for standing in run]):
        return False
    world = World(net, Seen(net, fault, place), failing)
    if run[0] != world.start:
        return False
    follow = [then in world.followers(standing) for standing, then in zip(run, run[1:])]
    return all(follow) and not world.is_right(run[-1])


def is_one_of(thing, many):
    """Return whether any thing is one of some things that is_same knows."""
    return any([is_same(thing, one) for one in many])


def verdict_holds(net, thing):
    """Return whether any thing is a verdict on a net that is right."""
    if is_tuple(thing, 2) and is_same(thing[0], "selective"):
        return is_shown(net, thing[1])
    return goes_astray(net, thing)
