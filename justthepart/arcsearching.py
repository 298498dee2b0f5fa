"""Judging a fault with a resistance in each cell of how much of it there is, and judging such verdicts."""

from justthepart.errors import BadPaper
from justthepart.nets import is_tuple
from justthepart.papers import Checker, is_formed_yes, is_one_of, is_same, is_stretch
from justthepart.places import sample
from justthepart.searching import WHOLE, Search
from justthepart.world import failings


class ArcSearch(Search):
    """The search through all runs of one arc, in all cells of its y."""

    def __init__(self, net, seen):
        super().__init__(net, seen, failings(net))

    def verdicts(self):
        """Return a tuple of (cell, verdict)."""
        work = [(WHOLE, {})]
        out = []
        while work:
            cell, split = work.pop()
            verdict, topologies = self.verdict_at(self.seen_in(cell))
            parts = self.parted(cell, [opened for opened in topologies if opened not in split])
            if parts:
                split = {opened: True for opened in list(split) + topologies}
                work.extend([(part, split) for part in reversed(parts)])
            else:
                out.append((cell, verdict))
        return tuple(out)

    def verdict_at(self, seen):
        """Return (verdict, topologies): what is so at a place, and what it rests on."""
        found, wrong = self.looked(seen)
        if wrong is None:
            pairs = tuple([(failing, same[1]) for failing, same in zip(self.cases, found)])
            return ("selective", pairs), [opened for same in found for opened in same[0]]
        return ("astray", *wrong), [standing[0] for standing in wrong[1]]


def check_arc_verdicts(net, seen, thing):
    """Raise BadPaper for any thing that is no tuple of (cell, verdict) which are right for an arc."""
    if not (isinstance(thing, tuple) and all([is_tuple(pair, 2) for pair in thing])):
        raise BadPaper("no tuple of pairs of a cell and a verdict")
    if not are_cells([pair[0] for pair in thing]):
        raise BadPaper("no cells from 0 to 1")
    checker = Checker(net, seen, failings(net))
    for cell, verdict in thing:
        check_verdict(checker, cell, verdict)


def are_cells(things):
    """Return whether some things are cells from 0 to 1: a stretch, a place, a stretch, and so on."""
    end = (0, 1)
    for at, cell in enumerate(things):
        if end == (1, 1):
            return False
        if at % 2 == 1:
            if not is_same(cell, ("at", end)):
                return False
        elif is_stretch(cell, end):
            end = cell[2]
        else:
            return False
    return end == (1, 1)


def check_verdict(checker, cell, thing):
    """Raise BadPaper for any thing that is no verdict on a cell which is right."""
    if is_formed_yes(thing):
        pairs = thing[1]
        if not (is_tuple(pairs, len(checker.cases)) and all([is_tuple(pair, 2) for pair in pairs])):
            raise BadPaper("no pairs of what fails and lots")
        if not all([is_same(pair[0], failing) for pair, failing in zip(pairs, checker.cases)]):
            raise BadPaper("pairs that do not tell of all failings in their order")
        checker.check_pairs(cell, list(zip(checker.cases, [pair[1] for pair in pairs])))
        return
    if not (is_tuple(thing, 3) and is_same(thing[0], "astray") and is_one_of(thing[1], checker.cases)):
        raise BadPaper("no verdict")
    if not checker.is_wrong_run(thing[2], checker.seen.elsewhere(sample(cell)), thing[1]):
        raise BadPaper("no run that ends wrong")
    checker.check_still(thing[2], cell, {})
