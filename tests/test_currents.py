"""[7] to [10] Faults, topologies and currents."""

import random
import unittest
from fractions import Fraction
from itertools import combinations
from math import gcd

import apart
from drawn import grid, spoiled_net, wild_net
from justthepart.currents import flows, into_fault
from samples import EXAMPLE, KINDS, VILLAGE, breakers_of, faults_of

# Two lines beside each other, one more between two further buses, sources at three of them.
RING = (("a", "b", "c", "d"), (("x", "a", "b", 4), ("y", "b", "a", 6), ("z", "b", "c", 3), ("w", "a", "c", 5)),
        (("g", "a", 1), ("h", "c", 2), ("k", "d", 7)), (), ((0, 1), 1, 1, 1))
PLACES = [Fraction(1, 1000), Fraction(1, 3), Fraction(1, 2), Fraction(17, 20), Fraction(999, 1000)]


def value(poly, x):
    """Return the value of a polynomial of fractions."""
    return sum(Fraction(*part) * x ** power for power, part in enumerate(poly))


class Flows(unittest.TestCase):
    def assert_form(self, told, net):
        """Assert that flows are formed as the document tells."""
        self.assertIsInstance(told, tuple)
        den, volts, into = told
        self.assertEqual(list(volts), list(net[0]))
        self.assertEqual(sorted(into), breakers_of(net))
        for poly in (den, *volts.values(), *into.values()):
            self.assertTrue(isinstance(poly, tuple) and len(poly) == 3)
            for n, d in poly:
                self.assertTrue(type(n) is int and type(d) is int and d > 0 and gcd(n, d) == 1)

    def assert_rules(self, net, opened, fault, x):
        """Assert all that [8] says of what flows tell, at one place."""
        told = flows(net, opened, fault)
        self.assert_form(told, net)
        den = value(told[0], x)
        self.assertGreater(den, 0)
        volts = {bus: value(poly, x) / den for bus, poly in told[1].items()}
        into = {breaker: value(poly, x) / den for breaker, poly in told[2].items()}
        fed, ways = apart.fed_buses(net, opened, fault)
        for bus in net[0]:
            if bus not in fed or ("bus", bus) == fault:
                self.assertEqual(volts[bus], 0)
            elif bus in fed:
                self.assertEqual(apart.coming_out(net, into, bus), 0)
        for name, one, other, resistance in net[1]:
            ends = (into[(name, 0)], into[(name, 1)])
            if (name, one, other, resistance) in ways:
                flow = (volts[one] - volts[other]) / resistance
                self.assertEqual(ends, (flow, -flow))
            elif ("line", name) == fault:
                parts = ((one, x * resistance), (other, (1 - x) * resistance))
                wanted = [volts[bus] / part if bus in fed and (name, end) not in opened else 0
                          for end, (bus, part) in enumerate(parts)]
                self.assertEqual(list(ends), wanted)
            else:
                self.assertEqual(ends, (0, 0))
        for name, bus, resistance in net[2]:
            self.assertEqual(into[(name, 0)], 0 if (name, 0) in opened else (1 - volts[bus]) / resistance)
        whole = into_fault(net, told, fault)
        self.assertEqual(value(whole, x) / den, apart.currents(net, opened, fault, x)[2])
        self.assertEqual((volts, into), apart.currents(net, opened, fault, x)[:2])

    def test_every_topology_of_a_ring(self):
        breakers = breakers_of(RING)
        for many in (0, 1, 2, 3):
            for opened in combinations(breakers, many):
                for fault in faults_of(RING):
                    self.assert_rules(RING, opened, fault, PLACES[(len(opened) + len(fault[1])) % 5])

    def test_every_topology_of_small_nets(self):
        for net in (EXAMPLE, VILLAGE):
            breakers = breakers_of(net)
            for many in range(len(breakers) + 1):
                for opened in combinations(breakers, many):
                    for fault in faults_of(net):
                        for x in PLACES:
                            self.assert_rules(net, opened, fault, x)

    def test_drawn_nets(self):
        draw = random.Random(8)
        for _ in range(250):
            buses = draw.randint(1, 6)
            net = (*grid(draw, buses, 0 if buses == 1 else draw.randint(0, 8), draw.randint(1, 3)), (), RING[4])
            breakers = breakers_of(net)
            opened = tuple(sorted(draw.sample(breakers, draw.randint(0, min(4, len(breakers))))))
            for fault in faults_of(net):
                self.assert_rules(net, opened, fault, Fraction(draw.randint(1, 99), 100))

    def test_great_nets(self):
        draw = random.Random(9)
        for _ in range(10):
            names = tuple("abcdef")
            lines = tuple((f"l{at}", *draw.sample(names, 2), draw.randint(900, 1000)) for at in range(8))
            net = (names, lines, tuple((f"s{at}", draw.choice(names), 1000 - at) for at in range(3)), (), RING[4])
            for fault in faults_of(net):
                self.assert_rules(net, (), fault, Fraction(1, 7))

    def test_somewhat_beyond_the_limits(self):
        names = tuple("abcdefgh")
        lines = tuple((one + other, one, other, 1500) for one, other in zip(names, names[1:] + names[:1]))
        net = (names, lines + (("l9", "a", "e", 3),), (("s", "a", 2000), ("t", "d", 1)), (), RING[4])
        for fault in faults_of(net):
            self.assert_rules(net, (), fault, Fraction(2, 3))

    def test_den_is_above_0_everywhere(self):
        draw = random.Random(10)
        for _ in range(60):
            net = wild_net(draw)
            opened = tuple(sorted(draw.sample(breakers_of(net), draw.randint(0, 1))))
            for fault in faults_of(net):
                den = flows(net, opened, fault)[0]
                for at in range(1, 60):
                    self.assertGreater(value(den, Fraction(at, 60)), 0)
                self.assertGreater(value(den, Fraction(1, 10 ** 9)), 0)
                self.assertGreater(value(den, 1 - Fraction(1, 10 ** 9)), 0)

    def test_a_faulty_line_and_its_breakers(self):
        net = (("a", "b"), (("ab", "a", "b", 10),), (("g", "a", 3), ("h", "b", 5)), (), RING[4])
        fault = ("line", "ab")
        x = Fraction(1, 4)
        for opened, ends in (((), (Fraction(2, 11), Fraction(2, 25))), ((("ab", 0),), (0, Fraction(2, 25))),
                             ((("ab", 1),), (Fraction(2, 11), 0)), ((("ab", 0), ("ab", 1)), (0, 0)),
                             ((("ab", 0), ("h", 0)), (0, 0)), ((("g", 0),), (0, Fraction(2, 25)))):
            told = flows(net, opened, fault)
            den = value(told[0], x)
            self.assertEqual([value(told[2][("ab", end)], x) / den for end in (0, 1)], list(ends))
            self.assertEqual(value(into_fault(net, told, fault), x) / den, sum(ends))
            self.assert_rules(net, opened, fault, x)

    def test_a_faulty_bus_through_which_others_are_fed(self):
        net = (("a", "b", "c"), (("ab", "a", "b", 2), ("bc", "b", "c", 3)), (("g", "a", 1),), (), RING[4])
        fault = ("bus", "b")
        den, volts, into = flows(net, (), fault)
        # c hangs together with g by ways, though only through the fault: it is fed, at 0.
        self.assertEqual(apart.fed_buses(net, (), fault)[0], {"a", "b", "c"})
        self.assertEqual([value(volts[bus], 5) / value(den, 5) for bus in "abc"], [Fraction(2, 3), 0, 0])
        self.assertEqual(value(into[("ab", 1)], 9) / value(den, 9), Fraction(-1, 3))
        self.assertEqual(value(into_fault(net, (den, volts, into), fault), 3) / value(den, 3), Fraction(1, 3))

    def test_a_faulty_bus_is_the_same_for_all_x(self):
        draw = random.Random(11)
        for _ in range(40):
            net = wild_net(draw)
            fault = ("bus", draw.choice(net[0]))
            den, volts, into = flows(net, (), fault)
            for poly in (*volts.values(), *into.values(), into_fault(net, (den, volts, into), fault)):
                told = [value(poly, x) / value(den, x) for x in PLACES]
                self.assertEqual(told, told[:1] * len(PLACES))

    def test_a_source_at_the_faulty_bus(self):
        den, volts, into = flows(VILLAGE, (), ("bus", "a"))
        self.assertEqual([value(into[(name, 0)], 0) / value(den, 0) for name in "gh"], [Fraction(1, 2), Fraction(1, 5)])
        self.assertEqual(value(into_fault(VILLAGE, (den, volts, into), ("bus", "a")), 0) / value(den, 0), Fraction(7, 10))
        den, volts, into = flows(VILLAGE, (("g", 0), ("h", 0)), ("bus", "a"))
        self.assertEqual({*volts.values(), *into.values()}, {((0, 1),) * 3})
        self.assertGreater(value(den, Fraction(1, 2)), 0)

    def test_buses_without_a_source(self):
        net = (("a", "b", "c", "d"), (("ab", "a", "b", 2), ("cd", "c", "d", 3), ("dc", "c", "d", 1)), (("g", "a", 1),), (), RING[4])
        for fault in (("line", "cd"), ("bus", "c")):
            den, volts, into = flows(net, (), fault)
            x = Fraction(1, 3)
            self.assertEqual([value(volts[bus], x) / value(den, x) for bus in "abcd"], [1, 1, 0, 0])
            self.assertTrue(all(value(poly, x) == 0 for poly in into.values()))
            self.assertEqual(into_fault(net, (den, volts, into), fault), ((0, 1), (0, 1), (0, 1)))

    def test_into_fault_of_any_flows_told(self):
        # Flows that somebody else tells may have any den, and fractions that are no integers.
        draw = random.Random(12)
        for _ in range(60):
            net = spoiled_net(draw)
            fault = draw.choice(faults_of(net))
            den, volts, into = flows(net, (), fault)
            by = Fraction(draw.randint(1, 30), draw.randint(1, 30))

            def scaled(poly):
                parts = [Fraction(*part) * by for part in poly]
                return tuple((part.numerator, part.denominator) for part in parts)

            other = (scaled(den), {bus: scaled(volts[bus]) for bus in volts}, {key: scaled(into[key]) for key in into})
            whole = into_fault(net, other, fault)
            self.assertEqual(whole, scaled(into_fault(net, (den, volts, into), fault)))
            for n, d in whole:
                self.assertTrue(d > 0 and gcd(n, d) == 1)

    def test_arguments_and_answers_are_kept(self):
        fault = ("line", "ab")
        first = flows(EXAMPLE, (), fault)
        first[1]["a"] = first[2][("ab", 0)] = None
        second = flows(EXAMPLE, (), fault)
        self.assertIsNotNone(second[1]["a"])
        flows(KINDS, (), ("line", "twin"))
        self.assertEqual(flows(EXAMPLE, (), fault), second)
        into_fault(EXAMPLE, second, fault)
        self.assertEqual(flows(EXAMPLE, (), fault), second)


if __name__ == "__main__":
    unittest.main()
