"""[2] Arguments are as before behind each call; asked twice, also with another net between, the answer is equal."""

import copy
import unittest

from justthepart.currents import flows, into_fault
from justthepart.errors import GuardError
from justthepart.nets import check_net, is_net
from justthepart.nettexts import net_text, read_net
from justthepart.papers import check_paper, goes_astray, is_shown, verdict_holds
from justthepart.searching import judge
from justthepart.seeing import Seen
from justthepart.settings import judge_all, least_delays, without_line
from justthepart.world import beginning, failings, followers, is_right, may_open
from samples import EXAMPLE, KINDS, with_guards, with_rules

FAULT = ("line", "ab")
PLACE = ("root", (1, -4, 2), 0)
ORDERED = ((), (1,) * 9, ((("ab", 0), 1), (("twin", 1), 0)))
NO = judge(with_guards(EXAMPLE, EXAMPLE[3][2:]))


def calls_of(net, verdict):
    """Return (function, arguments) for all that may be asked about a net with a line ab between a and b."""
    told = flows(net, (), FAULT)
    standing = (ORDERED[0], ORDERED[1][:len(net[3])], ORDERED[2][:1])
    out = [(check_net, net), (is_net, net), (is_net, list(net)), (net_text, net), (read_net, net_text(net)), (read_net, "bus\n")]
    out += [(flows, net, (), FAULT), (flows, net, (("ab", 0),), ("bus", "b")), (into_fault, net, told, FAULT), (beginning, net)]
    out += [(seen_at, net, FAULT, PLACE, ()), (seen_at, net, ("bus", "a"), None, (("ab", 1),)), (failings, net)]
    for failing in (None, ("guard", net[3][0][0]), ("breaker", ("ab", 0))):
        out += [(may_open, net, FAULT, failing), (followers_at, net, FAULT, PLACE, standing, failing)]
        out += [(is_right_at, net, FAULT, PLACE, standing, failing)]
    out += [(judge, net), (verdict_holds, net, verdict), (goes_astray, net, verdict), (goes_astray, net, NO)]
    out += [(is_shown, net, verdict[1]), (check_paper, net, verdict[1]), (check_paper, net, [1, [2]]), (without_line, net, "ab")]
    return out + [(judge_all, net), (least_delays, net)]


def seen_at(net, fault, place, opened):
    """Return what a Seen tells."""
    seen = Seen(net, fault, place)
    return seen.at(opened), seen.flows_at(opened), seen.net, seen.fault, seen.place


def followers_at(net, fault, place, standing, failing):
    """Return followers by a Seen made for them."""
    return followers(net, Seen(net, fault, place), standing, failing)


def is_right_at(net, fault, place, standing, failing):
    """Return whether a standing is right by a Seen made for it."""
    return is_right(net, Seen(net, fault, place), standing, failing)


def answer(function, arguments):
    """Return what a function returns, or the kind of its error and what it tells."""
    try:
        return function(*arguments)
    except GuardError as error:
        return type(error), vars(error)


class Conventions(unittest.TestCase):
    def test_arguments_and_answers(self):
        nets = [EXAMPLE, KINDS, with_rules(EXAMPLE, ticks=5), with_guards(EXAMPLE, EXAMPLE[3][::-1])]
        calls = [call for net in nets for call in calls_of(net, judge(net))]
        first = []
        for function, *arguments in calls:
            before = copy.deepcopy(arguments)
            first.append(answer(function, arguments))
            self.assertEqual(arguments, before, function)
        # Asked once more, the last ones first: between two answers stand those about other nets.
        for (function, *arguments), told in reversed(list(zip(calls, first))):
            self.assertEqual(answer(function, arguments), told, function)

    def test_what_is_returned_is_the_callers_own(self):
        seen = Seen(EXAMPLE, FAULT, (1, 2))
        for ask in (lambda: flows(EXAMPLE, (), FAULT), lambda: seen.flows_at(())):
            told = ask()
            whole = copy.deepcopy(told)
            told[1].clear()
            told[2].clear()
            self.assertEqual(ask(), whole)
        start = beginning(EXAMPLE)
        for ask in (lambda: followers(EXAMPLE, seen, start, None), lambda: may_open(EXAMPLE, FAULT, None), lambda: failings(EXAMPLE)):
            told = ask()
            whole = list(told)
            told.clear()
            self.assertEqual(ask(), whole)


if __name__ == "__main__":
    unittest.main()
