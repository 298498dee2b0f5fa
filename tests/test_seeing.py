"""[11] and [12] What guards see."""

import random
import unittest
from fractions import Fraction

import apart
from drawn import pair, spoiled_net, wild_net
from justthepart.currents import flows
from justthepart.places import is_place
from justthepart.polys import roots, whole
from justthepart.seeing import Seen
from samples import EXAMPLE, KINDS, VILLAGE, breakers_of, faults_of, with_guards, with_rules

# A line of 10 between a with a source of 3, and b with one of 5; a bus c behind another line.
NET = (("a", "b", "c"), (("ab", "a", "b", 10), ("bc", "b", "c", 4)), (("g", "a", 3), ("h", "b", 5)), (), ((1, 10), 1, 2, 10))
HALF = (1, 2)

# For faults in the middle of ab into ab.0 flows 1 / (3 + 5), into ab.1 1 / (5 + 5), and a is at 5/8, b at 1/2.
FLOWS = {("ab", 0): Fraction(1, 8), ("ab", 1): Fraction(1, 10), ("g", 0): Fraction(1, 8), ("h", 0): Fraction(1, 10),
         ("bc", 0): Fraction(0), ("bc", 1): Fraction(0)}


def fraction(number):
    """Return a number as a fraction of the package."""
    number = Fraction(number)
    return (number.numerator, number.denominator)


def seen_by(told, net=NET, fault=("line", "ab"), place=HALF, opened=(), error=(1, 10)):
    """Return what one guard sees."""
    net = with_rules(with_guards(net, [("q", told, 0, (("g", 0),))]), error=error)
    told = Seen(net, fault, place).at(opened)
    assert isinstance(told, tuple) and len(told) == 1 and type(told[0]) is int
    return told[0]


def bounds_around(number, error):
    """Return (bound, what is seen) for a number that lies right at, or beside, the bounds of a guard over."""
    error = Fraction(*error)
    beside = Fraction(1, 200)
    out = [(number / (1 + error), 2), (number / (1 - error), 1 if error else 2)]
    return out + [(number / (1 + error) * (1 - beside), 2), (number / (1 - error) * (1 + beside), 0),
                  (number / (1 + error) * (1 + beside), 1 if error else 0), (number / (1 - error) * (1 - beside), 1 if error else 2)]


class Kinds(unittest.TestCase):
    def test_flows_that_are_told_here(self):
        volts, into, _ = apart.currents(NET, (), ("line", "ab"), Fraction(1, 2))
        self.assertEqual(into, FLOWS)
        self.assertEqual(volts, {"a": Fraction(5, 8), "b": Fraction(1, 2), "c": Fraction(1, 2)})

    def test_over(self):
        for error in ((0, 1), (1, 10), (1, 2), (999, 1000)):
            for breaker in (("ab", 0), ("ab", 1), ("g", 0), ("h", 0)):
                for bound, wanted in bounds_around(FLOWS[breaker], error):
                    for is_forward in (False, True):
                        told = ("over", breaker, fraction(bound), is_forward)
                        self.assertEqual(seen_by(told, error=error), wanted, (told, error))

    def test_over_at_currents_below_0(self):
        # A fault at c takes what comes through bc: into bc.1 flows less than 0.
        fault = ("bus", "c")
        volts, into, _ = apart.currents(NET, (), fault, None)
        flow = -into[("bc", 1)]
        self.assertGreater(flow, 0)
        self.assertEqual(into[("bc", 0)], flow)
        for error in ((0, 1), (1, 10), (1, 2)):
            for bound, wanted in bounds_around(flow, error):
                self.assertEqual(seen_by(("over", ("bc", 1), fraction(bound), False), fault=fault, error=error), wanted)
                self.assertEqual(seen_by(("over", ("bc", 1), fraction(bound), True), fault=fault, error=error), 0)
                self.assertEqual(seen_by(("over", ("bc", 0), fraction(bound), True), fault=fault, error=error), wanted)
                self.assertEqual(seen_by(("over", ("bc", 0), fraction(bound), False), fault=fault, error=error), wanted)

    def test_over_without_a_current(self):
        for opened, breaker in (((), ("bc", 0)), ((("ab", 0),), ("ab", 0)), ((("ab", 0),), ("g", 0)), ((("g", 0),), ("g", 0))):
            for is_forward in (False, True):
                for error in ((0, 1), (999, 1000)):
                    told = ("over", breaker, (1, 1000), is_forward)
                    self.assertEqual(seen_by(told, opened=opened, error=error), 0)

    def test_reach(self):
        volts = {("ab", 0): Fraction(5, 8), ("ab", 1): Fraction(1, 2), ("g", 0): Fraction(5, 8), ("h", 0): Fraction(1, 2)}
        for error in ((0, 1), (1, 10), (1, 2)):
            e = Fraction(*error)
            for breaker, volt in volts.items():
                # V <= F (1 - e) I, V > F (1 + e) I: so V / I is told as V over F was.
                far = volt / FLOWS[breaker]
                for bound, wanted in ((far / (1 - e), 2), (far / (1 + e), 1 if e else 2), (far / (1 - e) * Fraction(201, 200), 2),
                                      (far / (1 - e) * Fraction(199, 200), 1 if e else 0),
                                      (far / (1 + e) * Fraction(199, 200), 0),
                                      (far / (1 + e) * Fraction(201, 200), 1 if e else 2)):
                    self.assertEqual(seen_by(("reach", breaker, fraction(bound)), error=error), wanted, (breaker, bound, e))

    def test_reach_at_currents_that_are_not_above_0(self):
        fault = ("bus", "c")
        for told in (("reach", ("bc", 1), (1000, 1)), ("reach", ("ab", 1), (1000, 1))):
            self.assertEqual(seen_by(told, fault=fault), 0)
        self.assertEqual(seen_by(("reach", ("bc", 0), (1000, 1)), fault=fault), 2)
        # Without a current, at a bus with a voltage and at one without.
        self.assertEqual(seen_by(("reach", ("bc", 0), (1000, 1))), 0)
        self.assertEqual(seen_by(("reach", ("ab", 0), (1000, 1)), opened=(("g", 0),)), 0)
        # With a current, but no voltage: at the source of the faulty bus.
        self.assertEqual(seen_by(("reach", ("g", 0), (1, 1000)), fault=("bus", "a")), 2)
        self.assertEqual(seen_by(("reach", ("ab", 0), (1000, 1)), fault=("bus", "a")), 0)

    def test_reach_where_the_current_turns(self):
        # For faults on one of two equal lines the current in the other one turns in the middle.
        net = (("a", "b"), (("x", "a", "b", 8), ("y", "a", "b", 8)), (("g", "a", 1), ("h", "b", 1)), (), ((1, 10), 1, 2, 10))
        fault = ("line", "x")
        for place, ends in (((1, 2), (0, 0)), ((1, 10), (0, 2)), ((9, 10), (2, 0)), (("root", (1, -6, 6), 1), (2, 0))):
            for end in (0, 1):
                self.assertEqual(seen_by(("reach", ("y", end), (1000, 1)), net, fault, place), ends[end])
                self.assertEqual(seen_by(("over", ("y", end), (1, 1000), True), net, fault, place), ends[end])
                self.assertEqual(seen_by(("over", ("y", end), (1, 1000), False), net, fault, place), max(ends))
                self.assertEqual(seen_by(("behind", ("y", end)), net, fault, place), max(ends))

    def test_difference_of_lines(self):
        for error in ((0, 1), (1, 10), (1, 2)):
            for bound, wanted in bounds_around(Fraction(1, 8) + Fraction(1, 10), error):
                self.assertEqual(seen_by(("difference", "ab", fraction(bound)), error=error), wanted)
            for fault in (("line", "ab"), ("bus", "a"), ("bus", "c")):
                self.assertEqual(seen_by(("difference", "bc", (1, 1000)), fault=fault, error=error), 0)
            # With one end open all of it comes in at the other one.
            for bound, wanted in bounds_around(Fraction(1, 10), error):
                told = ("difference", "ab", fraction(bound))
                self.assertEqual(seen_by(told, opened=(("ab", 0),), error=error), wanted)
            self.assertEqual(seen_by(("difference", "ab", (1, 1000)), opened=(("ab", 0), ("ab", 1)), error=error), 0)

    def test_difference_of_buses(self):
        for error in ((0, 1), (1, 10), (1, 2)):
            for bus in "abc":
                self.assertEqual(seen_by(("difference", bus, (1, 1000)), error=error), 0)
                whole = apart.currents(NET, (), ("bus", bus), None)[2]
                for bound, wanted in bounds_around(whole, error):
                    told = ("difference", bus, fraction(bound))
                    self.assertEqual(seen_by(told, fault=("bus", bus), place=None, error=error), wanted)
                for other in "abc":
                    if other != bus:
                        self.assertEqual(seen_by(("difference", other, (1, 1000)), fault=("bus", bus), error=error), 0)
        # Two sources at one bus without lines.
        self.assertEqual(seen_by(("difference", "a", (7, 10)), VILLAGE, ("bus", "a"), None, error=(0, 1)), 2)
        self.assertEqual(seen_by(("difference", "a", (71, 100)), VILLAGE, ("bus", "a"), None, error=(0, 1)), 0)

    def test_behind(self):
        self.assertEqual(seen_by(("behind", ("ab", 0))), 2)
        self.assertEqual(seen_by(("behind", ("ab", 1))), 2)
        self.assertEqual(seen_by(("behind", ("g", 0))), 2)
        self.assertEqual(seen_by(("behind", ("bc", 0))), 0)
        self.assertEqual(seen_by(("behind", ("bc", 1)), fault=("bus", "c")), 2)
        self.assertEqual(seen_by(("behind", ("ab", 0)), opened=(("ab", 0),)), 0)
        self.assertEqual(seen_by(("behind", ("g", 0)), opened=(("g", 0),)), 0)
        self.assertEqual(seen_by(("behind", ("g", 0)), opened=(("ab", 0),)), 0)
        self.assertEqual(seen_by(("behind", ("h", 0)), opened=(("ab", 0),)), 2)

    def test_small_and_great_bounds(self):
        for fault in (("line", "ab"), ("bus", "a")):
            self.assertEqual(seen_by(("over", ("g", 0), (1, 1000), True), fault=fault), 2)
            self.assertEqual(seen_by(("over", ("g", 0), (1000, 1), False), fault=fault), 0)


class Objects(unittest.TestCase):
    def test_attributes(self):
        for fault, place in ((("line", "ab"), HALF), (("line", "ab"), ("root", (1, -4, 2), 0)), (("bus", "a"), None)):
            seen = Seen(EXAMPLE, fault, place)
            self.assertEqual((seen.net, seen.fault, seen.place), (EXAMPLE, fault, place))
            self.assertEqual(seen.flows_at((("ab", 1),)), flows(EXAMPLE, (("ab", 1),), fault))
            self.assertEqual((seen.net, seen.fault, seen.place), (EXAMPLE, fault, place))
        for name in ("at", "flows_at"):
            self.assertIn(name, vars(Seen))

    def test_any_place_at_a_faulty_bus(self):
        for place in (None, HALF, (3, 1), "anywhere", 7, ("root", (1, -4, 2), 0), [1]):
            self.assertEqual(Seen(EXAMPLE, ("bus", "a"), place).at(()), (0, 0, 0, 2, 2, 0, 0))

    def test_one_number_a_guard(self):
        for net in (EXAMPLE, KINDS, VILLAGE, with_guards(EXAMPLE, [])):
            for fault in faults_of(net):
                told = Seen(net, fault, HALF).at(())
                self.assertIs(type(told), tuple)
                self.assertEqual(len(told), len(net[3]))
                self.assertTrue(all(type(sight) is int and sight in (0, 1, 2) for sight in told))

    def test_asked_twice(self):
        seen = Seen(KINDS, ("line", "ab"), HALF)
        first = seen.at(())
        told = seen.flows_at(())
        told[1].clear()
        other = Seen(EXAMPLE, ("line", "ab"), HALF)
        self.assertEqual(other.at(()), (2, 2, 2, 0, 0, 0, 2))
        self.assertEqual((seen.at(()), Seen(KINDS, ("line", "ab"), HALF).at(())), (first, first))
        self.assertEqual(seen.flows_at(()), flows(KINDS, (), ("line", "ab")))


class Drawn(unittest.TestCase):
    def assert_seen(self, net, fault, place, opened):
        wanted = apart.Fault(net, fault, place).sees(opened)
        self.assertEqual(Seen(net, fault, place).at(opened), wanted, (net, fault, place, opened))

    def test_at_fractions(self):
        draw = random.Random(21)
        for at in range(300):
            net = wild_net(draw, 12) if at % 2 else spoiled_net(draw)
            breakers = breakers_of(net)
            for fault in faults_of(net):
                opened = tuple(sorted(draw.sample(breakers, min(len(breakers), draw.choice((0, 0, 1, 2, 3))))))
                self.assert_seen(net, fault, pair(draw.randint(1, 39), 40), opened)

    def test_where_what_is_seen_changes(self):
        # Right at the places, most of them roots, at which some guard's bounds are met, and beside them.
        draw = random.Random(22)
        kinds = {}
        for _ in range(150):
            net = spoiled_net(draw)
            breakers = breakers_of(net)
            for line in net[1]:
                fault = ("line", line[0])
                opened = tuple(sorted(draw.sample(breakers, draw.choice((0, 0, 1)))))
                for place in bounds_met(net, fault, opened):
                    kinds[place[0] == "root"] = kinds.get(place[0] == "root", 0) + 1
                    self.assert_seen(net, fault, place, opened)
        self.assertTrue(kinds[True] > 50 and kinds[False] > 50, kinds)


def bounds_met(net, fault, opened):
    """Return the places at which a current, or a voltage, meets a bound of a guard over or reach."""
    den, volts, into = flows(net, opened, fault)
    error = Fraction(*net[4][0])
    out = []
    for _, (kind, part, *more), _, _ in net[3]:
        if kind in ("over", "reach"):
            for factor in (1 - error, 1 + error):
                bound = Fraction(*more[0]) * factor
                pairs = zip(into[part], den) if kind == "over" else zip(volts[apart.bus_of(net, part)], into[part])
                out += roots(whole(tuple(fraction(Fraction(*one) - bound * Fraction(*other)) for one, other in pairs)))
    return sorted({place for place in out if is_place(place)}, key=str)


if __name__ == "__main__":
    unittest.main()
