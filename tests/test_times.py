"""[30] Times: how long a current may flow into a fault, and how many ticks a net needs."""

import random
import unittest

import apart
from drawn import hazy_net, kept_net, pair, spoiled_net, wild_net
from justthepart.errors import BadThing, GuardError
from justthepart.nets import check_net
from justthepart.places import sample
from justthepart.searching import judge
from justthepart.times import latest_end, least_ticks, with_ticks
from samples import EXAMPLE, KINDS, VILLAGE, changed, faults_of, turning_net, with_guards, with_rules

AB0, AB1, G = ("ab", 0), ("ab", 1), ("g", 0)


def own_times(net, draw):
    """Return (latest, least) of a selective net, worked out apart, at some place in each cell of its paper."""
    latest, least = 0, 1
    cells = {(row[0], row[1]) for row in judge(net)[1]}
    for fault, cell in sorted(cells, key=str):
        places = [None] if cell is None else [sample(cell)]
        if cell == ("between", (0, 1), (1, 1)):
            places.append(pair(draw.randint(1, 39), 40))
        for place in places:
            here = apart.Fault(net, fault, place)
            for failing in apart.failings_of(net):
                for tick, lot in enumerate(here.lots(failing)):
                    if any(apart.sign(here.currents(standing[0])[2]) for standing in lot):
                        latest = max(latest, tick)
                    if not all(here.is_right(standing, failing) for standing in lot):
                        least = max(least, tick + 1)
    return latest, least


class Case(unittest.TestCase):
    def assert_times(self, net, wanted=None):
        """Assert that the times of a selective net are right; return them."""
        found = (latest_end(net), least_ticks(net))
        self.assertEqual(found, own_times(net, random.Random(121)))
        if wanted is not None:
            self.assertEqual(found, wanted)
        self.assertEqual(judge(with_ticks(net, found[1]))[0], "selective")
        if found[1] > 1:
            self.assertEqual(judge(with_ticks(net, found[1] - 1))[0], "astray")
        return found


class Samples(Case):
    def test_the_example(self):
        self.assert_times(EXAMPLE, (6, 7))
        for ticks in (7, 8, 20, 40):
            self.assert_times(with_rules(EXAMPLE, ticks=ticks), (6, 7))
        # Breakers that take at most a tick let f0 order sooner than it waits for; slow ones are waited for longer.
        self.assert_times(with_rules(EXAMPLE, most=1))
        slow = with_rules(changed(changed(EXAMPLE, (3, 2, 2), 6), (3, 6, 2), 9), least=3, most=6, ticks=40)
        self.assert_times(slow)

    def test_one_bus(self):
        # Two guards order behind a tick or two; then breakers open on the next tick.
        self.assert_times(VILLAGE, (2, 3))
        for delay in (0, 1, 5, 20):
            for most in (1, 3):
                net = with_guards(VILLAGE, [(name, told, delay, opens) for name, told, _, opens in VILLAGE[3]])
                self.assert_times(with_rules(net, least=1, most=most, ticks=40), (delay + most, delay + 1 + most))
        # A bus that no source feeds has no current behind any tick.
        self.assert_times(((*VILLAGE[0], "z"), *VILLAGE[1:]), (2, 3))

    def test_a_net_where_one_failing_takes_longest(self):
        # Only if e1 fails e2 must act, which waits for longer.
        net = with_rules(with_guards(VILLAGE, [("e1", VILLAGE[3][0][1], 0, (G, ("h", 0))), ("e2", VILLAGE[3][0][1], 7, (G, ("h", 0)))]), ticks=30)
        self.assert_times(net, (8, 9))

    def test_breakers_that_open_behind_the_last_current(self):
        # If ab.0 is stuck s may order ab.1 on the very tick on which f0's order of g comes through.
        net = (("a", "b"), (("ab", "a", "b", 10),), (("g", "a", 3),), (), ((1, 10), 1, 1, 30))
        for most, wanted in ((1, (3, 5)), (3, (7, 11))):
            guards = [(f"d{at}", ("difference", "ab", (1, 1000)), 0, (AB0,)) for at in (1, 2)]
            guards += [("s", ("difference", "ab", (1, 1000)), 2 * most + 1, (AB1,))]
            guards += [(f"e{at}", ("difference", "a", (1, 1000)), 0, (AB0, G)) for at in (1, 2)]
            guards += [(f"z{at}", ("difference", "b", (1, 1000)), 0, (AB1,)) for at in (1, 2)]
            guards += [("f0", ("behind", AB0), most, (G,)), ("f1", ("behind", AB1), most, (AB0,))]
            self.assert_times(with_rules(with_guards(net, guards), most=most), wanted)

    def test_with_ticks(self):
        for net in (EXAMPLE, KINDS, VILLAGE):
            for ticks in (1, 3, 40):
                other = with_ticks(net, ticks)
                self.assertEqual(other, (*net[:4], (*net[4][:3], ticks)))
                self.assertIsNone(check_net(other))
                self.assertEqual(with_ticks(other, net[4][3]), net)

    def test_nets_that_are_not_selective(self):
        for net in (KINDS, with_guards(EXAMPLE, []), with_rules(EXAMPLE, ticks=6), with_guards(VILLAGE, VILLAGE[3][:1]), turning_net()):
            self.assertEqual(judge(net)[0], "astray")
            for ask in (latest_end, least_ticks):
                with self.assertRaises(BadThing) as caught:
                    ask(net)
                self.assertIsInstance(caught.exception, GuardError)
                self.assertTrue(hasattr(caught.exception, "thing"))

    def test_places_far_and_near(self):
        # Near a q sees surely, and is done sooner than the others; elsewhere it is not: how long depends on the place.
        guards = [(name, told, 3 if name in ("d1", "d2") else delay, opens) for name, told, delay, opens in EXAMPLE[3]]
        for bound in ((5, 1), (1, 1), (9, 1)):
            net = with_rules(with_guards(EXAMPLE, [*guards, ("q", ("reach", AB0, bound), 0, (AB0, AB1))]), ticks=30)
            if judge(net)[0] == "selective":
                self.assert_times(net)

    def test_with_more_ticks_it_is_selective_too(self):
        least = least_ticks(EXAMPLE)
        for ticks in range(1, 41):
            self.assertEqual(judge(with_ticks(EXAMPLE, ticks))[0], "selective" if ticks >= least else "astray")


class Drawn(Case):
    def test_drawn_nets(self):
        draw = random.Random(122)
        found = {}
        for _ in range(150):
            net = draw.choice((kept_net, kept_net, spoiled_net, wild_net, hazy_net))(draw)
            if len(net[3]) > 9:
                continue
            if judge(net)[0] == "selective":
                times = self.assert_times(net)
                found[times] = found.get(times, 0) + 1
            else:
                for ask in (latest_end, least_ticks):
                    with self.assertRaises(BadThing):
                        ask(net)
        self.assertGreater(len(found), 4, found)


if __name__ == "__main__":
    unittest.main()
