"""How many ticks a selective net needs."""

from justthepart.currents import is_burning
from justthepart.errors import BadThing
from justthepart.places import sample
from justthepart.searching import judge
from justthepart.seeing import Seen
from justthepart.world import World


def paper_of(net):
    """Return a paper of a net; raise BadThing if it is not selective."""
    word, *told = judge(net)
    if word != "selective":
        raise BadThing(net)
    return told[0]


def latest_end(net):
    """Return the greatest number of ticks behind which a current may still flow into a fault, at last."""
    burning = {}
    latest = 0
    for fault, _, _, lots in paper_of(net):
        for tick in range(latest + 1, len(lots)):
            if any([burns(burning, net, fault, standing[0]) for standing in lots[tick]]):
                latest = tick
    return latest


def burns(burning, net, fault, opened):
    """Return whether a current flows into a fault at a topology, as known or to be known then."""
    if (fault, opened) not in burning:
        burning[(fault, opened)] = is_burning(net, opened, fault)
    return burning[(fault, opened)]


def least_ticks(net):
    """Return the fewest ticks with which a net is selective."""
    least = 1
    seen = None
    for fault, cell, failing, lots in paper_of(net):
        if seen is None or seen.fault != fault:
            seen = Seen(net, fault, None)
        world = World(net, seen.elsewhere(None if cell is None else sample(cell)), failing)
        # What follows a right end is one again: so those that are none are looked for from the end on.
        while least < len(lots) - 1 and not all([world.is_right(standing) for standing in lots[least]]):
            least += 1
    return least


def with_ticks(net, ticks):
    """Return a net with another number of ticks."""
    error, least, most, _ = net[4]
    return (*net[:4], (error, least, most, ticks))
