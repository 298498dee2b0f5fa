"""Judging rooms: going through all runs of all faults, in all cases, or up to one that goes wrong."""

from justthepart.parts import faults_of
from justthepart.rooms import check_room
from justthepart.roomworld import RoomWorld, cases
from justthepart.searching import Search, judged
from justthepart.seeing import Seen


def judge_room(net, room):
    """Return ("selective", paper), or ("astray", fault, place, case, run); raise BadRoom for what is no room."""
    check_room(net, room)
    return judged([RoomSearch(net, room, fault) for fault in faults_of(net)])


class RoomSearch(Search):
    """The search through all runs of one fault, in a net with a room."""

    def __init__(self, net, room, fault):
        super().__init__(net, Seen(net, fault, None), cases(net, room))
        self.room = room

    def world(self, seen, case):
        """Return the world of a case."""
        return RoomWorld(self.net, self.room, seen, case)
