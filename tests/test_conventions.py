"""[2] Arguments are as before behind each call; asked twice, also with another net between, the answer is equal."""

import copy
import unittest

from justthepart.arcs import ArcSeen, arc_flows, arc_holds, is_arc, judge_arc, safe_up_to
from justthepart.currents import flows, into_fault
from justthepart.errors import GuardError
from justthepart.nets import check_net, is_net
from justthepart.nettexts import net_text, read_net
from justthepart.papers import check_paper, goes_astray, is_shown, verdict_holds
from justthepart.records import dark_at, opened_in, record, steps_of
from justthepart.roompapers import check_room_paper, is_room_shown, room_goes_astray, room_verdict_holds
from justthepart.rooms import as_room, check_room, is_room
from justthepart.roomsearching import judge_room
from justthepart.roomtexts import read_room, room_text
from justthepart.roomworld import RoomWorld, cases, room_beginning, room_may_open
from justthepart.searching import judge
from justthepart.seeing import Seen
from justthepart.settings import judge_all, least_delays, without_line
from justthepart.times import latest_end, least_ticks, with_ticks
from justthepart.world import beginning, failings, followers, is_right, may_open
from roomsamples import AGAIN, FULL, NOTHING, PAIR, RELAYED
from samples import EXAMPLE, KINDS, with_guards, with_rules

FAULT = ("line", "ab")
PLACE = ("root", (1, -4, 2), 0)
ORDERED = ((), (1,) * 9, ((("ab", 0), 1), (("twin", 1), 0)))
NO = judge(with_guards(EXAMPLE, EXAMPLE[3][2:]))


def calls_of(net, verdict):
    """Return (function, arguments) for all that may be asked about a net with a line ab between a and b."""
    told = flows(net, (), FAULT)
    standing = (ORDERED[0], ORDERED[1][:len(net[3])], ORDERED[2][:1])
    out = [(check_net, net), (is_net, net), (is_net, list(net)), (net_text, net), (read_net, net_text(net)), (read_net, "bus\n")]
    out += [(flows, net, (), FAULT), (flows, net, (("ab", 0),), ("bus", "b")), (into_fault, net, told, FAULT), (beginning, net)]
    out += [(seen_at, net, FAULT, PLACE, ()), (seen_at, net, ("bus", "a"), None, (("ab", 1),)), (failings, net)]
    for failing in (None, ("guard", net[3][0][0]), ("breaker", ("ab", 0))):
        out += [(may_open, net, FAULT, failing), (followers_at, net, FAULT, PLACE, standing, failing)]
        out += [(is_right_at, net, FAULT, PLACE, standing, failing)]
    out += [(judge, net), (verdict_holds, net, verdict), (goes_astray, net, verdict), (goes_astray, net, NO)]
    out += [(is_shown, net, verdict[1]), (check_paper, net, verdict[1]), (check_paper, net, [1, [2]]), (without_line, net, "ab")]
    return out + [(judge_all, net), (least_delays, net)]


def room_calls_of(net, room):
    """Return (function, arguments) for all that may be asked about a net with a line ab, and a room of it."""
    start = room_beginning(room)
    verdict = judge_room(net, room)
    out = [(check_room, net, room), (is_room, net, room), (is_room, net, list(room)), (as_room, net), (room_text, net, room)]
    out += [(read_room, net, room_text(net, room)), (read_room, net, "let x"), (cases, net, room), (room_beginning, room)]
    for case in (cases(net, room)[0], cases(net, room)[1], cases(net, room)[-1]):
        for standing in (start, ((("ab", 0),), *start[1:]), (*start[:3], ((("ab", 0), 1),), 0)):
            out += [(room_world_at, net, room, place, case, standing) for place in (PLACE, (1, 3))]
        out += [(room_may_open, net, room, FAULT, case[0]), (room_may_open, net, room, ("bus", "b"), case[0])]
    out += [(judge_room, net, room), (judge_room, net, room[:5]), (room_verdict_holds, net, room, verdict)]
    out += [(room_goes_astray, net, room, verdict), (is_room_shown, net, room, verdict[1]), (check_room_paper, net, room, verdict[1])]
    return out


def room_world_at(net, room, place, case, standing):
    """Return what a RoomWorld tells of a standing."""
    world = RoomWorld(net, room, Seen(net, FAULT, place), case)
    return world.followers(standing), world.is_quiet(standing), world.is_right(standing), world.followers(standing)


def more_calls_of(net):
    """Return (function, arguments) for records, times and arcs of a net with a line ab."""
    run = (beginning(net), followers(net, Seen(net, FAULT, PLACE), beginning(net), None)[-1])
    texts = record(net, FAULT, PLACE, None, run).split("\n")[2:]
    out = [(record, net, FAULT, PLACE, None, run), (steps_of, net, FAULT, PLACE, None, texts), (opened_in, run), (opened_in, list(run))]
    out += [(dark_at, net, (("ab", 0),)), (latest_end, net), (least_ticks, net), (with_ticks, net, 3)]
    for arc in ((("bus", "a"), None, 1000), (FAULT, (1, 3), 20)):
        verdicts = judge_arc(net, arc)
        out += [(is_arc, net, arc), (is_arc, net, list(arc)), (arc_flows, net, (), arc), (arc_flows, net, (("ab", 0),), arc), (judge_arc, net, arc)]
        out += [(judge_arc, net, arc[:2]), (arc_holds, net, arc, verdicts), (arc_holds, net, arc, verdicts[1:]), (safe_up_to, verdicts)]
        out += [(arc_seen_at, net, arc, place, opened) for place in (PLACE, (1, 3)) for opened in ((), (("ab", 1),))]
    return out


def arc_seen_at(net, arc, place, opened):
    """Return what an ArcSeen tells."""
    seen = ArcSeen(net, arc, place)
    return seen.at(opened), seen.flows_at(opened), seen.net, seen.fault, seen.place


def seen_at(net, fault, place, opened):
    """Return what a Seen tells."""
    seen = Seen(net, fault, place)
    return seen.at(opened), seen.flows_at(opened), seen.net, seen.fault, seen.place


def followers_at(net, fault, place, standing, failing):
    """Return followers by a Seen made for them."""
    return followers(net, Seen(net, fault, place), standing, failing)


def is_right_at(net, fault, place, standing, failing):
    """Return whether a standing is right by a Seen made for it."""
    return is_right(net, Seen(net, fault, place), standing, failing)


def answer(function, arguments):
    """Return what a function returns, or the kind of its error and what it tells."""
    try:
        return function(*arguments)
    except GuardError as error:
        return type(error), vars(error)


class Conventions(unittest.TestCase):
    def test_arguments_and_answers(self):
        nets = [EXAMPLE, KINDS, with_rules(EXAMPLE, ticks=5), with_guards(EXAMPLE, EXAMPLE[3][::-1])]
        calls = [call for net in nets for call in calls_of(net, judge(net)) + more_calls_of(net)]
        rooms = [(EXAMPLE, FULL), (KINDS, NOTHING), (PAIR, RELAYED), (EXAMPLE, AGAIN), (EXAMPLE, as_room(EXAMPLE)), (KINDS, as_room(KINDS))]
        calls += [call for net, room in rooms for call in room_calls_of(net, room)]
        first = []
        for function, *arguments in calls:
            before = copy.deepcopy(arguments)
            first.append(answer(function, arguments))
            self.assertEqual(arguments, before, function)
        # Asked once more, the last ones first: between two answers stand those about other nets.
        for (function, *arguments), told in reversed(list(zip(calls, first))):
            self.assertEqual(answer(function, arguments), told, function)

    def test_what_is_returned_is_the_callers_own(self):
        seen = Seen(EXAMPLE, FAULT, (1, 2))
        arc = (FAULT, (1, 3), 20)
        for ask in (lambda: flows(EXAMPLE, (), FAULT), lambda: seen.flows_at(()), lambda: arc_flows(EXAMPLE, (), arc),
                    lambda: ArcSeen(EXAMPLE, arc, (1, 2)).flows_at(())):
            told = ask()
            whole = copy.deepcopy(told)
            told[1].clear()
            told[2].clear()
            self.assertEqual(ask(), whole)
        start = beginning(EXAMPLE)
        for ask in (lambda: followers(EXAMPLE, seen, start, None), lambda: may_open(EXAMPLE, FAULT, None), lambda: failings(EXAMPLE)):
            told = ask()
            whole = list(told)
            told.clear()
            self.assertEqual(ask(), whole)


if __name__ == "__main__":
    unittest.main()
