"""Judging papers and runs of nets with rooms, whoever wrote them."""

from justthepart.errors import BadPaper
from justthepart.nets import is_tuple, is_whole_number
from justthepart.papers import Checker, are_ages, check_all, is_formed_no, is_formed_yes, is_topology
from justthepart.parts import faults_of
from justthepart.roomworld import RoomWorld, cases
from justthepart.seeing import Seen


def is_room_shown(net, room, paper):
    """Return whether any thing is a paper that shows a net to be selective with a room."""
    try:
        check_room_paper(net, room, paper)
    except BadPaper:
        return False
    return True


def check_room_paper(net, room, paper):
    """Raise BadPaper for any thing that is no paper which shows a net to be selective with a room."""
    check_all([RoomChecker(net, room, fault) for fault in faults_of(net)], paper)


def room_goes_astray(net, room, thing):
    """Return whether any thing is a no, whose run is one of its fault, place and case and ends wrong."""
    return is_formed_no(net, thing) and RoomChecker(net, room, thing[1]).is_no(thing)


def room_verdict_holds(net, room, thing):
    """Return whether any thing is a verdict on a net with a room that is right."""
    if is_formed_yes(thing):
        return is_room_shown(net, room, thing[1])
    return room_goes_astray(net, room, thing)


class RoomChecker(Checker):
    """The judge of the rows of a paper that tell of one fault, in a net with a room."""

    def __init__(self, net, room, fault):
        super().__init__(net, Seen(net, fault, None), cases(net, room))
        self.room = room

    def world(self, seen, case):
        """Return the world of a case."""
        return RoomWorld(self.net, self.room, seen, case)

    def is_standing(self, thing):
        """Return whether any thing is formed as a standing of the room."""
        if not is_tuple(thing, 5):
            return False
        opened, cells, pasts, ages, still = thing
        if not (is_topology(opened, self.breakers) and are_ages(ages, self.breakers, opened)):
            return False
        channels, lets, _, _, _, gone = self.room
        if not (is_tuple(cells, len(lets)) and is_tuple(pasts, len(channels)) and is_whole_number(still, 0, gone)):
            return False
        if not all([is_cell(cell, let[1]) for cell, let in zip(cells, lets)]):
            return False
        return all([is_past(past, channel[2]) for past, channel in zip(pasts, channels)])


def is_cell(thing, what):
    """Return whether any thing is what a let may keep."""
    if what[0] != "timer":
        return is_whole_number(thing, 0, 1 if what[0] == "latch" else 0)
    _, _, on, off = what
    return is_tuple(thing, 2) and is_whole_number(thing[0], 0, on + 1) and is_whole_number(thing[1], 0, off)


def is_past(thing, most):
    """Return whether any thing is what may have been sent on a channel on so many ticks."""
    return is_tuple(thing, most) and all([is_whole_number(bit, 0, 1) for bit in thing])
