"""What guards see of currents, at all places of a faulty line at once, or with all resistances of a fault.

A guard compares numbers: what it sees at a place follows from the signs of some polynomials there, its marks.
Between neighbouring places at which a mark is 0 all places look the same to all guards.
"""

from justthepart.currents import ZERO, plus, times, whole_flows
from justthepart.parts import balance_of, buses_of_breakers
from justthepart.places import cells_of, order_of, sample
from justthepart.polys import sign_on, undivided

NO = 0
PERHAPS = 1
SURELY = 2


def sum_of_currents(into, terms):
    """Return the polynomial of the currents into some breakers, each with a sign."""
    total = ZERO
    for sign, breaker in terms:
        total = plus(total, into[breaker], sign)
    return total


class Look:
    """What one guard looks at."""

    def __init__(self, net, told):
        self.kind, part, *more = told
        self.terms = balance_of(net, part) if self.kind == "difference" else [(1, part)]
        self.bus = buses_of_breakers(net)[part] if self.kind == "reach" else None
        self.is_forward = self.kind == "over" and more[1]
        self.scale = self.low = self.high = 1
        if more:
            n, d = more[0]
            above, below = net[4][0]
            # So F (1 - e) is low over scale, and F (1 + e) is high over scale.
            self.scale = d * below
            self.low = n * (below - above)
            self.high = n * (below + above)

    def marks_in(self, whole):
        """Return the polynomials by whose signs the guard sees, [] if its current is 0 at all places."""
        den, volts, into = whole
        current = sum_of_currents(into, self.terms)
        if current == ZERO:
            # Then it sees nothing, as F, den and voltages of fed buses are above 0.
            return []
        if self.kind == "behind":
            return [current]
        if self.kind == "reach":
            volt = times(volts[self.bus], -self.scale)
            return [current, plus(volt, current, self.low), plus(volt, current, self.high)]
        one = [plus(times(current, self.scale), den, -bound) for bound in (self.low, self.high)]
        if self.is_forward:
            return one
        return one + [plus(times(current, -self.scale), den, -bound) for bound in (self.low, self.high)]

    def sight(self, signs):
        """Return what the guard sees where its marks have these signs."""
        if not signs:
            return NO
        if self.kind == "behind":
            return SURELY if signs[0] != 0 else NO
        if self.kind == "reach":
            flow, low, high = signs
            if flow <= 0 or high < 0:
                return NO
            return SURELY if low >= 0 else PERHAPS
        if max(signs[1::2]) >= 0:
            return SURELY
        return PERHAPS if max(signs[::2]) >= 0 else NO


class View:
    """What all guards see at one topology, and whether a current flows into the fault."""

    def __init__(self, looks, whole, burns):
        self.looks = looks
        self.burns = burns
        self.marks = [[undivided(*mark) for mark in look.marks_in(whole)] for look in looks]
        self.cells = cells_of([mark for marks in self.marks for mark in marks])
        self.places = [cell[1] for cell in self.cells[1::2]]
        self.told = {}

    def cell_at(self, place):
        """Return the number of the cell that a place, 0 or 1 is in; 0 and 1 are in the outer stretches."""
        low, high = 0, len(self.places)
        while low < high:
            middle = (low + high) // 2
            side = order_of(place, self.places[middle])
            if side == 0:
                return 2 * middle + 1
            if side > 0:
                low = middle + 1
            else:
                high = middle
        return 2 * low

    def sights_at(self, place):
        """Return the tuple of what all guards see if the fault is at a place."""
        at = self.cell_at(place)
        if at not in self.told:
            here = sample(self.cells[at])
            signs = [[sign_on(mark, here) for mark in marks] for marks in self.marks]
            self.told[at] = tuple([look.sight(row) for look, row in zip(self.looks, signs)])
        return self.told[at]

    def places_within(self, cell):
        """Return the places strictly within a cell, None for a bus, at which a mark is 0."""
        if cell is None or cell[0] == "at":
            return []
        _, one, other = cell
        first = (self.cell_at(one) + 1) // 2
        return self.places[first:self.cell_at(other) // 2]


class Views:
    """What all guards see of one fault at a site, by topology."""

    def __init__(self, net, fault, site):
        self.net = net
        self.fault = fault
        self.site = site
        self.looks = [Look(net, guard[1]) for guard in net[3]]
        self.terms = balance_of(net, fault[1])
        self.views = {}

    def view(self, opened):
        """Return the view of a topology."""
        if opened not in self.views:
            whole = whole_flows(self.net, opened, self.fault, self.site)
            burns = sum_of_currents(whole[2], self.terms) != ZERO
            self.views[opened] = View(self.looks, whole, burns)
        return self.views[opened]
