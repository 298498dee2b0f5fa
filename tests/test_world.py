"""[13] to [15] Standings, ticks and ends."""

import random
import unittest
from itertools import product

import apart
from drawn import kept_net, pair, spoiled_net, wild_net
from justthepart.seeing import Seen
from justthepart.world import beginning, failings, followers, is_right, may_open
from samples import EXAMPLE, KINDS, VILLAGE, breakers_of, faults_of, with_guards, with_rules

AB0, AB1, G = ("ab", 0), ("ab", 1), ("g", 0)
FAULT = ("line", "ab")
HALF = (1, 2)

# With a fault in the middle of ab 1/8 flows into ab.0: a bound of 1/8 is met perhaps with any error, one of 1/1000 surely.
PERHAPS = ("over", AB0, (1, 8), False)
SURELY = ("over", AB0, (1, 1000), False)
NEVER = ("over", AB0, (1000, 1), False)


def with_looks(*guards, least=1, most=2, ticks=10):
    """Return the example's net with guards of (what it looks at, delay, what it opens)."""
    told = [(f"q{at}", look, delay, opens) for at, (look, delay, opens) in enumerate(guards)]
    return with_rules(with_guards(EXAMPLE, told), least=least, most=most, ticks=ticks)


def after(net, standing, failing=None, fault=FAULT, place=HALF):
    """Return the followers of a standing."""
    return followers(net, Seen(net, fault, place), standing, failing)


class Standings(unittest.TestCase):
    def test_beginning(self):
        self.assertEqual(beginning(EXAMPLE), ((), (0,) * 7, ()))
        self.assertEqual(beginning(with_guards(EXAMPLE, [])), ((), (), ()))

    def test_failings(self):
        wanted = [None] + [("guard", name) for name in ("d1", "d2", "f0", "e1", "e2", "z1", "z2")]
        self.assertEqual(failings(EXAMPLE), wanted + [("breaker", AB0), ("breaker", AB1)])
        lines = [("breaker", (name, end)) for name in ("ab", "twin", "bc") for end in (0, 1)]
        self.assertEqual(failings(KINDS)[10:], lines)
        self.assertEqual(failings(VILLAGE), [None, ("guard", "e1"), ("guard", "e2")])


class Ticks(unittest.TestCase):
    def test_held_is_counted_to_delay_and_one(self):
        net = with_looks((SURELY, 2, (G,)))
        self.assertEqual(after(net, ((), (0,), ())), [((), (1,), ())])
        self.assertEqual(after(net, ((), (1,), ())), [((), (2,), ())])
        self.assertEqual(after(net, ((), (2,), ())), [((), (3,), ((G, 0),))])
        self.assertEqual(after(net, ((), (3,), ())), [((), (3,), ((G, 0),))])
        self.assertEqual(after(net, ((), (99,), ())), [((), (3,), ((G, 0),))])
        net = with_looks((SURELY, 0, (G,)), (NEVER, 3, (G,)))
        self.assertEqual(after(net, ((), (0, 4), ())), [((), (1, 0), ((G, 0),))])

    def test_perhaps_goes_both_ways(self):
        net = with_looks((PERHAPS, 2, (G,)))
        self.assertEqual(after(net, ((), (0,), ())), [((), (0,), ()), ((), (1,), ())])
        self.assertEqual(after(net, ((), (2,), ())), [((), (0,), ()), ((), (3,), ((G, 0),))])
        self.assertEqual(after(net, ((), (3,), ())), [((), (0,), ()), ((), (3,), ((G, 0),))])

    def test_several_that_see_perhaps_in_all_combinations(self):
        net = with_looks((PERHAPS, 1, (AB0,)), (SURELY, 5, (G,)), (PERHAPS, 0, (AB1,)), (PERHAPS, 1, (AB0, AB1)))
        found = after(net, ((), (1, 1, 0, 0), ()))
        wanted = []
        for one, two, three in product((0, 2), (0, 1), (0, 1)):
            ages = ((AB0, 0),) if one == 2 else ()
            ages += ((AB1, 0),) if two == 1 else ()
            wanted.append(((), (one, 2, two, three), ages))
        self.assertEqual(found, sorted(wanted))
        self.assertEqual(len(found), 8)
        many = with_looks(*[(PERHAPS, 3, (G,))] * 9)
        self.assertEqual(len(after(many, beginning(many))), 2 ** 9)

    def test_a_failing_guard_sees_nothing(self):
        for look in (SURELY, PERHAPS, ("behind", AB0)):
            net = with_looks((look, 0, (G,)), (SURELY, 0, (AB1,)))
            self.assertEqual(after(net, ((), (1, 0), ((AB0, 0),)), ("guard", "q0"))[0][1], (0, 1))
            self.assertEqual({held[0] for _, held, _ in after(net, ((), (1, 0), ()), ("guard", "q0"))}, {0})

    def test_orders(self):
        # By several guards on one tick; what is ordered or open is not ordered again.
        net = with_looks((SURELY, 0, (AB0, G)), (SURELY, 0, (AB0, AB1)), least=2, most=4)
        self.assertEqual(after(net, beginning(net)), [((), (1, 1), ((AB0, 0), (AB1, 0), (G, 0)))])
        self.assertEqual(after(net, ((), (1, 1), ((AB0, 0),))), [((), (1, 1), ((AB0, 1), (AB1, 0), (G, 0)))])
        net = with_looks((("difference", "ab", (1, 1000)), 0, (AB0, AB1)), least=2, most=4)
        self.assertEqual(after(net, ((G,), (0,), ((AB1, 2),))), [((AB1, G), (0,), ()), ((G,), (0,), ((AB1, 3),))])
        both = (("a", "b"), (("ab", "a", "b", 10),), (("g", "a", 3), ("h", "b", 3)), net[3], net[4])
        self.assertEqual(after(both, ((AB0,), (0,), ())), [((AB0,), (1,), ((AB1, 0),))])
        self.assertEqual(after(both, ((AB0,), (0,), ((AB1, 3),))), [((AB0, AB1), (1,), ())])

    def test_one_that_is_ordered_as_it_opens(self):
        # What opens on a tick was ordered ahead of it: it is not ordered again on it.
        net = with_looks((SURELY, 0, (AB0,)), least=1, most=1)
        self.assertEqual(after(net, ((), (1,), ((AB0, 0),))), [((AB0,), (1,), ())])

    def test_ages(self):
        net = with_looks((NEVER, 0, (G,)), least=2, most=4)
        for age, wanted in ((0, [1]), (1, [2, None]), (2, [3, None]), (3, [None]), (4, [None]), (99, [None])):
            found = after(net, ((), (0,), ((AB0, age),)))
            self.assertEqual(found, [((), (0,), ((AB0, old),)) if old else ((AB0,), (0,), ()) for old in wanted])
        net = with_looks((NEVER, 0, (G,)), least=3, most=3)
        for age, wanted in ((0, 1), (1, 2), (2, None)):
            found = after(net, ((), (0,), ((AB0, age),)))
            self.assertEqual(found, [((), (0,), ((AB0, wanted),)) if wanted else ((AB0,), (0,), ())])
        net = with_looks((NEVER, 0, (G,)), least=1, most=1)
        self.assertEqual(after(net, ((), (0,), ((AB0, 0),))), [((AB0,), (0,), ())])
        net = with_looks((NEVER, 0, (G,)), least=1, most=6)
        self.assertEqual(len(after(net, ((), (0,), ((AB0, 0),)))), 2)
        self.assertEqual(len(after(net, ((), (0,), ((AB0, 5),)))), 1)

    def test_several_that_may_open_in_all_combinations(self):
        net = with_looks((NEVER, 0, (G,)), least=2, most=4)
        found = after(net, ((), (0,), ((AB0, 0), (AB1, 1), (G, 2))))
        wanted = [((), (0,), ((AB0, 1), (AB1, 2), (G, 3))), ((AB1,), (0,), ((AB0, 1), (G, 3))),
                  ((AB1, G), (0,), ((AB0, 1),)), ((G,), (0,), ((AB0, 1), (AB1, 2)))]
        self.assertEqual(found, sorted(wanted))
        self.assertEqual(len(after(net, ((), (0,), ((AB0, 1), (AB1, 1), (G, 1))))), 8)
        self.assertEqual(after(net, ((), (0,), ((AB0, 3), (AB1, 0), (G, 3)))), [((AB0, G), (0,), ((AB1, 1),))])

    def test_a_failing_breaker(self):
        net = with_looks((NEVER, 0, (G,)), least=1, most=3)
        failing = ("breaker", AB0)
        for age, wanted in ((0, 1), (1, 2), (2, 3), (3, 3), (99, 3)):
            self.assertEqual(after(net, ((), (0,), ((AB0, age),)), failing), [((), (0,), ((AB0, wanted),))])
        found = after(net, ((), (0,), ((AB0, 2), (AB1, 2))), failing)
        self.assertEqual(found, [((AB1,), (0,), ((AB0, 3),))])
        # It is ordered as any other one is.
        net = with_looks((SURELY, 0, (AB0,)), least=1, most=3)
        self.assertEqual(after(net, beginning(net), failing), [((), (1,), ((AB0, 0),))])

    def test_behind_sees_by_what_was_ordered_ahead(self):
        net = with_looks((SURELY, 0, (AB0,)), (("behind", AB0), 0, (G,)), least=2, most=2)
        self.assertEqual(after(net, beginning(net)), [((), (1, 0), ((AB0, 0),))])
        self.assertEqual(after(net, ((), (1, 0), ((AB0, 0),))), [((), (1, 1), ((AB0, 1), (G, 0)))])
        # It still sees on the tick on which the breaker opens, and no more behind it.
        found = after(net, ((), (1, 1), ((AB0, 1), (G, 0))))
        self.assertEqual(found, [((AB0,), (1, 1), ((G, 1),))])
        self.assertEqual(after(net, found[0]), [((AB0, G), (0, 0), ())])
        # Without a current it sees nothing.
        self.assertEqual(after(net, ((G,), (0, 1), ((AB0, 0),))), [((G,), (0, 0), ((AB0, 1),))])

    def test_ascending_each_once(self):
        draw = random.Random(31)
        for _ in range(60):
            net = wild_net(draw)
            fault = draw.choice(faults_of(net))
            for standing in drawn_standings(draw, net, 6):
                for failing in (None, draw.choice(failings(net))):
                    found = after(net, standing, failing, fault, (1, 3))
                    self.assertIs(type(found), list)
                    self.assertEqual(found, sorted(set(found)))

    def test_arguments_and_answers_are_kept(self):
        seen = Seen(EXAMPLE, FAULT, HALF)
        start = beginning(EXAMPLE)
        first = followers(EXAMPLE, seen, start, None)
        first.clear()
        wanted = [((), (1, 1, 0, 0, 0, 0, 1), ((AB0, 0), (AB1, 0)))]
        self.assertEqual(followers(EXAMPLE, seen, start, None), wanted)
        after(KINDS, beginning(KINDS))
        self.assertEqual(followers(EXAMPLE, seen, start, None), wanted)
        self.assertEqual((start, seen.net, seen.fault, seen.place), (beginning(EXAMPLE), EXAMPLE, FAULT, HALF))
        may_open(EXAMPLE, FAULT, None).clear()
        self.assertEqual(sorted(set(may_open(EXAMPLE, FAULT, None))), [AB0, AB1])


def drawn_standings(draw, net, many):
    """Return standings of a net, of which no run may ever come to some."""
    out = []
    breakers = breakers_of(net)
    for _ in range(many):
        opened = sorted(draw.sample(breakers, draw.randint(0, min(3, len(breakers)))))
        shut = [breaker for breaker in breakers if breaker not in opened]
        ages = sorted(draw.sample(shut, draw.randint(0, min(3, len(shut)))))
        held = tuple(draw.randint(0, guard[2] + 2) for guard in net[3])
        out.append((tuple(opened), held, tuple((breaker, draw.randint(0, 4)) for breaker in ages)))
    return out


class Drawn(unittest.TestCase):
    def test_as_the_rules_tell(self):
        draw = random.Random(32)
        rights = 0
        for at in range(400):
            net = draw.choice((wild_net, kept_net, spoiled_net))(draw)
            fault = draw.choice(faults_of(net))
            place = None if fault[0] == "bus" else pair(draw.randint(1, 19), 20)
            here = apart.Fault(net, fault, place)
            seen = Seen(net, fault, place)
            for failing in [None] + draw.sample(failings(net), min(3, len(failings(net)))):
                self.assertEqual(set(may_open(net, fault, failing)), here.allowed(failing))
                for standing in [beginning(net)] + drawn_standings(draw, net, 3):
                    found = followers(net, seen, standing, failing)
                    self.assertEqual(set(found), here.followers(standing, failing))
                    self.assertIs(is_right(net, seen, standing, failing), here.is_right(standing, failing))
                last = sorted(here.lots(failing)[-1])[0]
                rights += is_right(net, seen, last, failing)
                self.assertIs(is_right(net, seen, last, failing), here.is_right(last, failing))
        self.assertGreater(rights, 100)


class Ends(unittest.TestCase):
    def test_breakers_at_a_faulty_part(self):
        self.assertEqual(set(may_open(KINDS, ("line", "ab"), None)), {AB0, AB1})
        self.assertEqual(set(may_open(KINDS, ("bus", "a"), None)), {AB0, AB1, ("twin", 0), ("twin", 1), G})
        self.assertEqual(set(may_open(KINDS, ("bus", "c"), None)), {("bc", 0), ("bc", 1), ("h", 0)})
        self.assertEqual(set(may_open(KINDS, ("bus", "lone"), None)), set())

    def test_with_a_guard_failing(self):
        at_a, at_b = set(may_open(KINDS, ("bus", "a"), None)), set(may_open(KINDS, ("bus", "b"), None))
        # q1 opens ab.0, at a; q4 both ends of bc; q3 the source at a; q7 breakers that all stand at b.
        self.assertEqual(set(may_open(KINDS, ("line", "bc"), ("guard", "q1"))), {("bc", 0), ("bc", 1)} | at_a)
        self.assertEqual(set(may_open(KINDS, ("line", "ab"), ("guard", "q4"))), {AB0, AB1, ("h", 0)} | at_b)
        self.assertEqual(set(may_open(KINDS, ("line", "bc"), ("guard", "q3"))), {("bc", 0), ("bc", 1)} | at_a)
        self.assertEqual(set(may_open(KINDS, ("bus", "lone"), ("guard", "q7"))), at_b)
        self.assertEqual(set(may_open(KINDS, ("bus", "c"), ("guard", "q5"))), set(may_open(KINDS, ("bus", "c"), None)))

    def test_with_a_breaker_failing(self):
        at_a, at_b = set(may_open(KINDS, ("bus", "a"), None)), set(may_open(KINDS, ("bus", "b"), None))
        self.assertEqual(set(may_open(KINDS, ("line", "ab"), ("breaker", AB0))), at_a)
        self.assertEqual(set(may_open(KINDS, ("line", "ab"), ("breaker", AB1))), at_b)
        # Elsewhere a failing breaker lets no more be open: of another line, or at the far end of a line at the bus.
        self.assertEqual(set(may_open(KINDS, ("line", "ab"), ("breaker", ("twin", 0)))), {AB0, AB1})
        self.assertEqual(set(may_open(KINDS, ("bus", "a"), ("breaker", ("ab", 1)))), at_a)
        self.assertEqual(set(may_open(KINDS, ("bus", "c"), ("breaker", ("bc", 0)))), set(may_open(KINDS, ("bus", "c"), None)))
        self.assertEqual(set(may_open(KINDS, ("bus", "c"), ("breaker", ("bc", 1)))), {("bc", 0), ("bc", 1), ("h", 0)})
        self.assertEqual(set(may_open(KINDS, ("bus", "lone"), ("breaker", AB0))), set())

    def assert_right(self, net, standing, wanted, failing=None, fault=FAULT, place=HALF):
        self.assertIs(is_right(net, Seen(net, fault, place), standing, failing), wanted)

    def test_right_and_not_right(self):
        net = with_looks((("difference", "ab", (1, 1000)), 0, (AB0, AB1)))
        self.assert_right(net, ((AB0, AB1), (0,), ()), True)
        self.assert_right(net, ((AB0, AB1), (1,), ()), True)
        # The village has no source: one end is enough.
        self.assert_right(net, ((AB0,), (0,), ()), True)
        # A current still flows, though nobody sees it.
        blind = with_looks((NEVER, 0, (AB0,)))
        self.assert_right(blind, ((), (0,), ()), False)
        self.assert_right(blind, ((AB1,), (0,), ()), False)
        self.assert_right(blind, ((AB0,), (0,), ()), True)
        # A breaker is open that may not be.
        self.assert_right(net, ((AB0, AB1, G), (0,), ()), False)
        self.assert_right(net, ((G,), (0,), ()), False)
        self.assert_right(net, ((G,), (0,), ()), True, None, ("bus", "a"), None)
        # A breaker is ordered and shut.
        self.assert_right(net, ((AB0,), (0,), ((AB1, 0),)), False)
        self.assert_right(net, ((AB0,), (0,), ((AB1, 0),)), True, ("breaker", AB1))
        self.assert_right(net, ((AB0,), (0,), ((AB1, 0), (G, 0))), False, ("breaker", AB1))
        self.assert_right(net, ((AB0,), (0,), ((AB1, 0),)), False, ("breaker", AB0))
        self.assert_right(net, ((AB0,), (0,), ((AB1, 0),)), False, ("guard", "q0"))

    def test_whether_what_flows_is_seen_or_not(self):
        # With a source behind each end of the line both ends must be open, whatever guards see of it.
        net = (("a", "b"), (("ab", "a", "b", 10),), (("g", "a", 3), ("h", "b", 3)), (), ((1, 10), 1, 2, 10))
        for bound in ((1, 8), (1, 1000), (1000, 1)):
            for failing in (None, ("guard", "q")):
                one = with_guards(net, [("q", ("over", AB1, bound, False), 0, (AB1,))])
                self.assert_right(one, ((AB0,), (0,), ()), False, failing)
                self.assert_right(one, ((AB1,), (0,), ()), False, failing)
                self.assert_right(one, ((AB0, AB1), (0,), ()), True, failing)

    def test_failing_guards_and_behind_see_nothing_there(self):
        for look in (SURELY, PERHAPS, ("behind", AB0), ("behind", G)):
            net = with_looks((look, 3, (AB0,)))
            for failing in (None, ("guard", "q0"), ("breaker", AB0)):
                self.assert_right(net, ((), (0,), ()), False, failing)
                self.assert_right(net, ((AB0, AB1), (0,), ()), True, failing)

    def test_behind_a_failing_breaker_that_is_ordered(self):
        net = with_looks((("behind", AB0), 3, (G,)))
        self.assert_right(net, ((), (0,), ((AB0, 2),)), False, ("breaker", AB0))
        self.assert_right(net, ((G,), (0,), ((AB0, 2),)), True, ("breaker", AB0))

    def test_no_breaker_opens_from_a_quiet_standing_on(self):
        draw = random.Random(33)
        quiet = 0
        for _ in range(150):
            net = draw.choice((wild_net, spoiled_net))(draw)
            fault = draw.choice(faults_of(net))
            here = apart.Fault(net, fault, (1, 3))
            seen = Seen(net, fault, (1, 3))
            for failing in draw.sample(failings(net), min(3, len(failings(net)))):
                for standing in [*drawn_standings(draw, net, 3), *list(here.lots(failing)[-1])[:3]]:
                    ordered = {breaker for breaker, _ in standing[2]}
                    if {("breaker", breaker) for breaker in ordered} <= {failing}:
                        if not any(here.sees(standing[0], ordered, failing)):
                            quiet += 1
                            for then in followers(net, seen, standing, failing):
                                self.assertEqual(then[0], standing[0])
                                self.assertIs(is_right(net, seen, then, failing), is_right(net, seen, standing, failing))
        self.assertGreater(quiet, 100)


if __name__ == "__main__":
    unittest.main()
