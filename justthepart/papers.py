"""Judging papers and runs, whoever wrote them."""

from justthepart.errors import BadPaper
from justthepart.nets import is_ascending, is_tuple, is_whole_number
from justthepart.parts import buses_of_breakers, faults_of
from justthepart.places import is_int, is_place, order_of, sample
from justthepart.seeing import Seen
from justthepart.world import World, failings

MOST_COUNT = 99


def is_shown(net, paper):
    """Return whether any thing is a paper that shows a net to be selective."""
    try:
        check_paper(net, paper)
    except BadPaper:
        return False
    return True


def check_paper(net, paper):
    """Raise BadPaper for any thing that is no paper which shows a net to be selective."""
    check_all([Checker(net, Seen(net, fault, None), failings(net)) for fault in faults_of(net)], paper)


def check_all(checkers, paper):
    """Raise BadPaper for any thing that is no paper with which some checkers, each of another fault, are content."""
    if not isinstance(paper, tuple):
        raise BadPaper("a paper is a tuple of rows")
    done = 0
    for checker in checkers:
        if checker.seen.fault[0] == "bus":
            done = checker.check_rows(paper, done, None)
        else:
            done = check_line(checker, paper, done)
    if done != len(paper):
        raise BadPaper("a row too many")


def check_line(checker, paper, done):
    """Check the rows of all cells of a line, behind so many rows of a paper; return how many are done then."""
    end = (0, 1)
    while True:
        if done >= len(paper) or not is_tuple(paper[done], 4):
            raise BadPaper("a row of a stretch is lacking")
        cell = paper[done][1]
        if not is_stretch(cell, end):
            raise BadPaper("no stretch from where the one ahead of it ends to somewhere behind that")
        done = checker.check_rows(paper, done, cell)
        end = cell[2]
        if end == (1, 1):
            return done
        done = checker.check_rows(paper, done, ("at", end))


def is_stretch(thing, one):
    """Return whether any thing is a stretch from one end to a place behind it, or to 1."""
    if not (is_tuple(thing, 3) and is_same(thing[:2], ("between", one))):
        return False
    other = thing[2]
    return is_same(other, (1, 1)) or is_place(other) and order_of(one, other) < 0


def is_same(thing, wanted):
    """Return whether any thing is what is wanted: tuples of strings, integers, which bools are not, bools and None."""
    if isinstance(wanted, tuple):
        return is_tuple(thing, len(wanted)) and all([is_same(one, other) for one, other in zip(thing, wanted)])
    if wanted is None:
        return thing is None
    if isinstance(wanted, bool):
        return isinstance(thing, bool) and thing == wanted
    if isinstance(wanted, str):
        return isinstance(thing, str) and thing == wanted
    return is_int(thing) and thing == wanted


def is_count(thing):
    """Return whether any thing is a number of ticks in a standing."""
    return is_whole_number(thing, 0, MOST_COUNT)


def is_topology(thing, breakers):
    """Return whether any thing is an ascending tuple of some of these breakers."""
    if not isinstance(thing, tuple):
        return False
    for breaker in thing:
        if not (is_tuple(breaker, 2) and isinstance(breaker[0], str) and is_int(breaker[1]) and breaker in breakers):
            return False
    return is_ascending(thing)


def are_ages(thing, breakers, opened):
    """Return whether any thing is an ascending tuple of breakers that are not open, with their ages."""
    if not (isinstance(thing, tuple) and all([is_tuple(pair, 2) and is_count(pair[1]) for pair in thing])):
        return False
    ordered = tuple([pair[0] for pair in thing])
    return is_topology(ordered, breakers) and not any([breaker in opened for breaker in ordered])


class Checker:
    """The judge of what papers tell of one fault, in all cases: of what fails, as far as there is no room."""

    def __init__(self, net, seen, all_cases):
        self.net = net
        self.seen = seen
        self.cases = all_cases
        self.breakers = buses_of_breakers(net)
        self.shown = {}

    def world(self, seen, case):
        """Return the world of a case."""
        return World(self.net, seen, case)

    def is_standing(self, thing):
        """Return whether any thing is formed as a standing."""
        if not is_tuple(thing, 3):
            return False
        opened, held, ages = thing
        if not (is_topology(opened, self.breakers) and are_ages(ages, self.breakers, opened)):
            return False
        return is_tuple(held, len(self.net[3])) and all([is_count(count) for count in held])

    def are_standings(self, thing):
        """Return whether any thing is a tuple of standings."""
        return isinstance(thing, tuple) and all([self.is_standing(standing) for standing in thing])

    def check_rows(self, paper, done, cell):
        """Check the rows of a cell, None for a bus, behind so many rows of a paper; return how many are done then."""
        rows = paper[done:done + len(self.cases)]
        if len(rows) < len(self.cases):
            raise BadPaper("rows are lacking")
        pairs = []
        for row, case in zip(rows, self.cases):
            if not (is_tuple(row, 4) and is_same(row[:3], (self.seen.fault, cell, case))):
                raise BadPaper("a row of another fault, cell or case")
            pairs.append((case, row[3]))
        self.check_pairs(cell, pairs)
        return done + len(rows)

    def check_pairs(self, cell, pairs):
        """Check pairs of a case and things that must be its lots, in a cell, None for a bus."""
        seen = self.seen.elsewhere(None if cell is None else sample(cell))
        still = {}
        for case, lots in pairs:
            self.check_form(lots)
            for lot in lots:
                self.check_still(lot, cell, still)
            self.check_lots(lots, seen, case)

    def check_form(self, lots):
        """Check that a thing is formed as lots."""
        if not is_tuple(lots, self.net[4][3] + 1):
            raise BadPaper("not as many lots as ticks, and one more")
        if not all([self.are_standings(lot) for lot in lots]):
            raise BadPaper("a lot that is no tuple of standings, or one that is not well formed")

    def check_still(self, standings, cell, still):
        """Check that all that guards see at the topologies of standings, but those known as still, is so in a cell."""
        views = self.seen.shared()
        for standing in standings:
            opened = standing[0]
            if opened not in still:
                if views.view(opened).places_within(cell):
                    raise BadPaper("a polynomial is not still")
                still[opened] = True

    def check_lots(self, lots, seen, case):
        """Check that lots hold all runs, and that these end well."""
        sights = {standing[0]: seen.at(standing[0]) for lot in lots for standing in lot}
        if self.shown.get(case) == (lots, sights):
            # As much was shown in the cell ahead, where the guards see the same.
            return
        world = self.world(seen, case)
        if world.start not in lots[0]:
            raise BadPaper("the beginning is not in the first lot")
        for lot, then in zip(lots, lots[1:]):
            known = {standing: True for standing in then}
            for standing in lot:
                if not all([follower in known for follower in world.next_ones(standing)]):
                    raise BadPaper("a follower is not in the next lot")
        if not all([world.is_right(standing) for standing in lots[-1]]):
            raise BadPaper("a standing of the last lot is no right end")
        self.shown[case] = (lots, sights)

    def is_wrong_run(self, run, seen, case):
        """Return whether any thing is a run of a case that ends wrong."""
        if not (is_tuple(run, self.net[4][3] + 1) and self.are_standings(run)):
            return False
        world = self.world(seen, case)
        if run[0] != world.start:
            return False
        for standing, then in zip(run, run[1:]):
            if then not in world.next_ones(standing):
                return False
        return not world.is_right(run[-1])

    def is_no(self, thing):
        """Return whether any thing is a no that tells of this fault, and is right."""
        _, _, place, case, run = thing
        if not (place is None if self.seen.fault[0] == "bus" else is_place(place)):
            return False
        return is_one_of(case, self.cases) and self.is_wrong_run(run, self.seen.elsewhere(place), case)


def goes_astray(net, thing):
    """Return whether any thing is a no, whose run is one of its fault, place and failing and ends wrong."""
    if not is_formed_no(net, thing):
        return False
    return Checker(net, Seen(net, thing[1], None), failings(net)).is_no(thing)


def is_formed_no(net, thing):
    """Return whether any thing is formed as a no, as far as its fault."""
    return is_tuple(thing, 5) and is_same(thing[0], "astray") and is_one_of(thing[1], faults_of(net))


def is_one_of(thing, many):
    """Return whether any thing is one of some things that is_same knows."""
    return any([is_same(thing, one) for one in many])


def verdict_holds(net, thing):
    """Return whether any thing is a verdict on a net that is right."""
    if is_formed_yes(thing):
        return is_shown(net, thing[1])
    return goes_astray(net, thing)


def is_formed_yes(thing):
    """Return whether any thing is a yes with some paper."""
    return is_tuple(thing, 2) and is_same(thing[0], "selective")
