"""What guards see of a fault at one place."""

from justthepart.currents import BARE, flows
from justthepart.views import Views


class Seen:
    """What all guards of a net see of a fault, at a place if it is a line's."""

    def __init__(self, net, fault, place):
        self.net = net
        self.fault = fault
        self.place = place
        self.views = None
        self.told = {}

    def shared(self):
        """Return the views of the fault, which all Seens of it at other places may share."""
        if self.views is None:
            self.views = Views(self.net, self.fault, BARE)
        return self.views

    def elsewhere(self, place):
        """Return a Seen of the same fault at another place."""
        other = Seen(self.net, self.fault, place)
        other.views = self.shared()
        return other

    def flows_at(self, opened):
        """Return the flows at a topology."""
        return flows(self.net, opened, self.fault)

    def at(self, opened):
        """Return the tuple of what all guards see at a topology, as if every breaker had been ordered."""
        if opened not in self.told:
            self.told[opened] = self.shared().view(opened).sights_at(self.place)
        return self.told[opened]

    def is_burning(self, opened):
        """Return whether a current flows into the fault at a topology."""
        return self.shared().view(opened).burns
