"""Faults that have a resistance: of an arc (fault, place, most) it is most times y, y being any place."""

from justthepart.arcsearching import ArcSearch, check_arc_verdicts
from justthepart.currents import told_in_fractions, whole_flows
from justthepart.errors import BadPaper, BadThing
from justthepart.nets import MOST_NUMBER, is_tuple, is_whole_number
from justthepart.papers import is_one_of
from justthepart.parts import faults_of
from justthepart.places import is_place
from justthepart.seeing import Seen
from justthepart.views import Views


def is_arc(net, thing):
    """Return whether any thing is an arc of a net."""
    if not (is_tuple(thing, 3) and is_one_of(thing[0], faults_of(net)) and is_whole_number(thing[2], 1, MOST_NUMBER)):
        return False
    place = thing[1]
    return place is None if thing[0][0] == "bus" else is_tuple(place, 2) and is_place(place)


def site_of(arc):
    """Return the site of an arc."""
    fault, place, most = arc
    n, d = (0, 1) if fault[0] == "bus" else place
    return (d, ((n, 0, 0), (d - n, 0, 0)), (0, most * d, 0))


def arc_flows(net, opened, arc):
    """Return (den, volts, into), as flows does, but with an arc and as polynomials in its y."""
    return told_in_fractions(whole_flows(net, opened, arc[0], site_of(arc)))


class ArcSeen(Seen):
    """What all guards of a net see of an arc, at a place of its y."""

    def __init__(self, net, arc, place):
        super().__init__(net, arc[0], place)
        self.arc = arc

    def shared(self):
        """Return the views of the arc, which all ArcSeens of it at other places may share."""
        if self.views is None:
            self.views = Views(self.net, self.fault, site_of(self.arc))
        return self.views

    def elsewhere(self, place):
        """Return an ArcSeen of the same arc at another place."""
        other = ArcSeen(self.net, self.arc, place)
        other.views = self.shared()
        return other

    def flows_at(self, opened):
        """Return the flows at a topology."""
        return arc_flows(self.net, opened, self.arc)

    def at(self, opened):
        """Return the tuple of what all guards see at a topology, as if every breaker had been ordered."""
        return super().at(opened)


def judge_arc(net, arc):
    """Return a tuple of (cell, verdict), for cells of y from 0 to 1; raise BadThing for no arc."""
    if not is_arc(net, arc):
        raise BadThing(arc)
    return ArcSearch(net, ArcSeen(net, arc, None)).verdicts()


def arc_holds(net, arc, verdicts):
    """Return whether any thing is a tuple of (cell, verdict) that is right for an arc."""
    if not is_arc(net, arc):
        return False
    try:
        check_arc_verdicts(net, ArcSeen(net, arc, None), verdicts)
    except BadPaper:
        return False
    return True


def safe_up_to(verdicts):
    """Return the first cell that is astray, None without one."""
    for cell, verdict in verdicts:
        if verdict[0] == "astray":
            return cell
    return None
