"""[19] and [20] Least delays, and a line away."""

import random
import unittest

import apart
from drawn import kept_net, spoiled_net, wild_net
from justthepart.errors import BadThing, GuardError
from justthepart.nets import check_net, is_net
from justthepart.papers import goes_astray, verdict_holds
from justthepart.searching import judge
from justthepart.settings import judge_all, least_delays, without_line
from samples import EXAMPLE, KINDS, VILLAGE, changed, with_guards, with_rules

AB0, AB1, G = ("ab", 0), ("ab", 1), ("g", 0)


def with_delays(net, delays):
    """Return a net with other delays."""
    return with_guards(net, [(name, told, delay, opens) for (name, told, _, opens), delay in zip(net[3], delays)])


def delays_of(net):
    """Return the delays of a net's guards."""
    return [guard[2] for guard in net[3]]


class LeastDelays(unittest.TestCase):
    def assert_least(self, net):
        """Assert all that is told of the least delays of a net."""
        late, verdict, whys = told = least_delays(net)
        self.assertIs(type(told), tuple)
        self.assertIsNone(check_net(late))
        self.assertEqual(with_delays(late, delays_of(net)), net)
        self.assertTrue(all(one <= other for one, other in zip(delays_of(late), delays_of(net))))
        self.assertEqual(verdict[0], "selective")
        self.assertTrue(verdict_holds(late, verdict))
        self.assertEqual((type(whys), len(whys)), (tuple, len(net[3])))
        for at, (delay, why) in enumerate(zip(delays_of(late), whys)):
            if delay == 0:
                self.assertIsNone(why)
            else:
                less = changed(late, (3, at, 2), delay - 1)
                self.assertTrue(goes_astray(less, why))
                self.assertTrue(verdict_holds(less, why))
                _, fault, place, failing, run = why
                self.assertTrue(apart.is_run(less, fault, place, failing, run))
                self.assertFalse(apart.Fault(less, fault, place).is_right(run[-1], failing))
        return delays_of(late)

    def test_the_example(self):
        self.assertEqual(self.assert_least(EXAMPLE), [0, 0, 2, 0, 0, 0, 0])

    def test_a_delay_that_must_stay(self):
        # Behind ab.0 a guard must wait for as long as ab.0 may take to open.
        for most, wanted in ((1, 1), (2, 2), (3, 3), (5, 5)):
            net = with_rules(with_delays(EXAMPLE, [0, 0, 9, 0, 0, 0, 9]), least=1, most=most, ticks=40)
            self.assertEqual(self.assert_least(net)[2], wanted)

    def test_delays_that_may_all_fall(self):
        self.assertEqual(self.assert_least(VILLAGE), [0, 0])
        self.assertEqual(self.assert_least(with_rules(with_delays(VILLAGE, [20, 20]), ticks=40)), [0, 0])
        self.assertEqual(self.assert_least(with_delays(VILLAGE, [0, 0])), [0, 0])

    def test_no_guards_at_all(self):
        with self.assertRaises(BadThing):
            least_delays(with_guards(VILLAGE, []))

    def test_nets_that_are_not_selective(self):
        for net in (KINDS, with_guards(EXAMPLE, []), with_rules(EXAMPLE, ticks=6), with_guards(EXAMPLE, EXAMPLE[3][1:])):
            if judge(net)[0] == "astray":
                with self.assertRaises(BadThing) as caught:
                    least_delays(net)
                self.assertIsInstance(caught.exception, GuardError)
                self.assertTrue(hasattr(caught.exception, "thing"))

    def test_delays_that_hang_together(self):
        # f0 must wait for what ab.0 takes, behind the first one of d1 and d2: whatever delays these have.
        for delays in ([0, 0, 2, 0, 0, 0, 4], [1, 0, 3, 0, 0, 0, 4], [0, 0, 4, 1, 0, 2, 3], [2, 1, 5, 0, 3, 1, 0]):
            net = with_rules(with_delays(EXAMPLE, delays), ticks=20)
            self.assertEqual(judge(net)[0], "selective")
            self.assertEqual(self.assert_least(net), [0, 0, 2, 0, 0, 0, 0])

    def test_drawn_nets(self):
        draw = random.Random(61)
        found = {"selective": 0, "astray": 0, "less": 0, "why": 0}
        for _ in range(50):
            net = draw.choice((kept_net, spoiled_net, wild_net))(draw, 2)
            if draw.random() < 0.7:
                net = with_rules(with_delays(net, [min(20, delay + draw.choice((0, 0, 1, 3))) for delay in delays_of(net)]), ticks=20)
            word = judge(net)[0]
            found[word] += 1
            if word == "astray":
                with self.assertRaises(BadThing):
                    least_delays(net)
            else:
                least = self.assert_least(net)
                found["less"] += least != delays_of(net)
                found["why"] += any(least)
        self.assertTrue(all(many > 5 for many in found.values()), found)

    def test_asked_twice(self):
        first = least_delays(EXAMPLE)
        least_delays(VILLAGE)
        self.assertEqual(least_delays(EXAMPLE), first)


class WithoutLine(unittest.TestCase):
    def test_the_example(self):
        net = without_line(EXAMPLE, "ab")
        self.assertEqual(net[:3], (("a", "b"), (), (("g", "a", 3),)))
        self.assertEqual(net[3], (("e1", ("difference", "a", (1, 1000)), 0, (G,)), ("e2", ("difference", "a", (1, 1000)), 0, (G,))))
        self.assertEqual(net[4], EXAMPLE[4])

    def test_all_kinds(self):
        guards = {guard[0]: guard for guard in KINDS[3]}
        net = without_line(KINDS, "ab")
        self.assertEqual((net[0], net[2], net[4]), (KINDS[0], KINDS[2], KINDS[4]))
        self.assertEqual(net[1], (("twin", "b", "a", 6), ("bc", "b", "c", 3)))
        # q1 and q8 look at its breakers, q6 at the line; q9 opens nothing else, q7 something.
        seven = ("q7", ("difference", "b", (1, 5)), 0, (("bc", 0), ("twin", 0)))
        self.assertEqual(net[3], (guards["q2"], guards["q3"], guards["q4"], guards["q5"], seven))
        net = without_line(KINDS, "twin")
        seven = ("q7", ("difference", "b", (1, 5)), 0, (AB1, ("bc", 0)))
        self.assertEqual([guard[0] for guard in net[3]], ["q1", "q3", "q4", "q5", "q6", "q7", "q8", "q9"])
        self.assertEqual(net[3][5], seven)
        net = without_line(KINDS, "bc")
        self.assertEqual([guard[0] for guard in net[3]], ["q1", "q2", "q3", "q5", "q6", "q7", "q9"])
        for name in ("ab", "twin", "bc"):
            self.assertTrue(is_net(without_line(KINDS, name)))

    def test_a_line_whose_name_begins_another_one(self):
        net = (("xy", "z"), (("x", "xy", "z", 1), ("xyz", "xy", "z", 2)), (("g", "z", 1),), (
            ("q1", ("difference", "xy", (1, 2)), 0, (("x", 0), ("xyz", 0))), ("q2", ("difference", "xyz", (1, 2)), 0, (("x", 1),)),
            ("q3", ("behind", ("xyz", 0)), 0, (("x", 1), ("xyz", 1))), ("q4", ("difference", "x", (1, 2)), 0, (("xyz", 1),)),
            ("q5", ("over", ("x", 1), (1, 2), True), 0, (("xyz", 1),)), ("q6", ("reach", ("g", 0), (1, 2)), 3, (("g", 0), ("x", 1)))),
            ((0, 1), 1, 1, 4))
        check_net(net)
        self.assertEqual(without_line(net, "x"), (("xy", "z"), (("xyz", "xy", "z", 2),), (("g", "z", 1),), (
            ("q1", ("difference", "xy", (1, 2)), 0, (("xyz", 0),)), ("q3", ("behind", ("xyz", 0)), 0, (("xyz", 1),)),
            ("q6", ("reach", ("g", 0), (1, 2)), 3, (("g", 0),))), ((0, 1), 1, 1, 4)))

    def test_lines_one_after_another(self):
        net = KINDS
        for name in ("bc", "ab", "twin"):
            net = without_line(net, name)
        self.assertEqual((net[1], [guard[0] for guard in net[3]]), ((), ["q3", "q5"]))
        self.assertTrue(is_net(net))

    def test_drawn_nets(self):
        draw = random.Random(62)
        for _ in range(100):
            net = draw.choice((wild_net, spoiled_net))(draw)
            for line in net[1]:
                less = without_line(net, line[0])
                check_net(less)
                self.assertEqual((less[0], less[2], less[4]), (net[0], net[2], net[4]))
                self.assertEqual(less[1], tuple(other for other in net[1] if other != line))
                left = {guard[0]: guard for guard in less[3]}
                self.assertEqual(list(left), [guard[0] for guard in net[3] if guard[0] in left])
                for name, told, delay, opens in net[3]:
                    rest = tuple(breaker for breaker in opens if breaker[0] != line[0])
                    looks = told[1] == line[0] or isinstance(told[1], tuple) and told[1][0] == line[0]
                    self.assertEqual(left.get(name), None if looks or not rest else (name, told, delay, rest))


class JudgeAll(unittest.TestCase):
    def assert_all(self, net):
        told = judge_all(net)
        self.assertIs(type(told), tuple)
        self.assertEqual([name for name, _ in told], [None] + [line[0] for line in net[1]])
        for name, verdict in told:
            other = net if name is None else without_line(net, name)
            self.assertTrue(verdict_holds(other, verdict))
            self.assertEqual(verdict, judge(other))
        return [verdict[0] for _, verdict in told]

    def test_samples(self):
        self.assertEqual(self.assert_all(EXAMPLE), ["selective", "selective"])
        self.assertEqual(self.assert_all(VILLAGE), ["selective"])
        self.assertEqual(self.assert_all(with_guards(EXAMPLE, EXAMPLE[3][:3])), ["astray", "astray"])
        self.assert_all(KINDS)

    def test_drawn_nets(self):
        draw = random.Random(63)
        words = []
        for _ in range(40):
            words += self.assert_all(draw.choice((kept_net, wild_net))(draw))
        self.assertTrue(min(words.count("selective"), words.count("astray")) > 10)


if __name__ == "__main__":
    unittest.main()
