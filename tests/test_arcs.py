"""[31] Arcs: faults that have a resistance."""

import random
import unittest
from fractions import Fraction

import apart
from apartarcs import ArcFault, arc_currents
from drawn import hazy_net, kept_net, net_of_all_kinds, pair, spoiled_net, wild_net
from justthepart.arcs import ArcSeen, arc_flows, arc_holds, is_arc, judge_arc, safe_up_to
from justthepart.currents import flows, into_fault
from justthepart.errors import BadThing
from justthepart.places import order_of, sample
from justthepart.searching import judge
from justthepart.seeing import Seen
from samples import (EXAMPLE, KINDS, VILLAGE, Awkward, at_path, breakers_of, changed, faults_of, paths_of, strange_things, with_guards,
                     with_rules)

AB0, AB1, G = ("ab", 0), ("ab", 1), ("g", 0)
AT_A = (("bus", "a"), None, 1000)
AT_B = (("bus", "b"), None, 1000)
ON_AB = (("line", "ab"), (1, 3), 1000)
ROOTS = (("root", (-1, 1, 1), 1), ("root", (1, -5, 5), 0), ("root", (-1, 0, 2), 1))


def drawn_arc(draw, net, most=(1, 5, 20, 100, 1000)):
    """Return an arc of a net."""
    fault = draw.choice(faults_of(net))
    place = None if fault[0] == "bus" else pair(draw.randint(1, 39), 40)
    return (fault, place, draw.choice(most))


def value(poly, y):
    """Return the value of a polynomial of fractions at a number."""
    c0, c1, c2 = (Fraction(*part) for part in poly)
    return c0 + c1 * y + c2 * y * y


class Forms(unittest.TestCase):
    def test_arcs(self):
        for arc in (AT_A, AT_B, ON_AB, (("bus", "a"), None, 1), (("line", "ab"), (1, 1000), 1), (("line", "ab"), (999, 1000), 7)):
            self.assertIs(is_arc(EXAMPLE, arc), True)

    def test_no_arcs(self):
        for thing in strange_things():
            self.assertIs(is_arc(EXAMPLE, thing), False)
            with self.assertRaises(BadThing) as caught:
                judge_arc(EXAMPLE, thing)
            self.assertIs(caught.exception.thing, thing)
            for arc in (AT_A, ON_AB):
                for at in range(3):
                    if not (thing is arc[at] or type(thing) is int and at == 2 and thing == 1):
                        self.assertIs(is_arc(EXAMPLE, changed(arc, (at,), thing)), False)

    def test_most(self):
        for most, wanted in ((1, True), (1000, True), (0, False), (1001, False), (-1, False), (True, False), (1.0, False), ((1, 1), False), (None, False)):
            for arc in (AT_A, ON_AB):
                self.assertIs(is_arc(EXAMPLE, (*arc[:2], most)), wanted)

    def test_places(self):
        for place in ((1, 2), (1, 1), None, (0, 1), 0, ()):
            self.assertIs(is_arc(EXAMPLE, (("bus", "a"), place, 3)), place is None)
        for place, wanted in (((1, 2), True), ((99, 100), True), (None, False), ((0, 1), False), ((1, 1), False), ((2, 4), False), ((3, 2), False),
                              ((-1, 2), False), ((1, -2), False), ((True, 2), False), ([1, 2], False), ((1, 2, 1), False), ((1,), False), ("1/2", False),
                              (0.5, False), (Awkward(), False), ((Awkward(), 2), False)) + tuple((root, False) for root in ROOTS):
            self.assertIs(is_arc(EXAMPLE, (("line", "ab"), place, 3)), wanted)

    def test_faults(self):
        for fault in (("bus", "c"), ("bus", "ab"), ("line", "a"), ("line", "zz"), ("source", "g"), "a", ("bus",), ["bus", "a"], ("bus", "a", 1), ("bus", None),
                      (Awkward(), "a"), ("bus", ["a"]), None, ()):
            for place in (None, (1, 2)):
                self.assertIs(is_arc(EXAMPLE, (fault, place, 3)), False)
        for arc in (AT_A[:2], (*AT_A, 1), list(AT_A), (AT_A,), ()):
            self.assertIs(is_arc(EXAMPLE, arc), False)

    def test_of_another_net(self):
        self.assertIs(is_arc(VILLAGE, ON_AB), False)
        self.assertIs(is_arc(VILLAGE, AT_B), False)
        with self.assertRaises(BadThing):
            judge_arc(VILLAGE, ON_AB)


class Flows(unittest.TestCase):
    def assert_flows(self, net, opened, arc, ys):
        """Assert that flows are as they must be at some y."""
        told = den, volts, into = arc_flows(net, opened, arc)
        self.assertEqual((set(volts), set(into)), (set(net[0]), set(breakers_of(net))))
        for poly in [den, *volts.values(), *into.values()]:
            self.assertEqual([type(part) for part in poly], [tuple] * 3)
            for n, d in poly:
                self.assertEqual((n, d), pair(n, d))
        whole = into_fault(net, told, arc[0])
        for y in ys:
            own = arc_currents(net, opened, arc, y)
            below = value(den, y)
            self.assertGreater(below, 0)
            self.assertEqual({bus: value(volts[bus], y) / below for bus in volts}, own[0])
            self.assertEqual({breaker: value(into[breaker], y) / below for breaker in into}, own[1])
            self.assertEqual(value(whole, y) / below, own[2])
        return told

    def test_by_hand(self):
        # g 3, then 10/3 of the line, then the arc 1000 y: the current is 1 / (3 + 10/3 + 1000 y).
        den, volts, into = self.assert_flows(EXAMPLE, (), ON_AB, [Fraction(1, 7)])
        for y in (Fraction(1, 9), Fraction(1, 2)):
            flow = 1 / (Fraction(19, 3) + 1000 * y)
            self.assertEqual(value(into[AB0], y) / value(den, y), flow)
            self.assertEqual(value(into[G], y) / value(den, y), flow)
            self.assertEqual(value(volts["a"], y) / value(den, y), 1 - 3 * flow)
        self.assertEqual((volts["b"], into[AB1]), (((0, 1),) * 3, ((0, 1),) * 3))
        # At a bus behind the line: b has the arc's voltage.
        den, volts, into = arc_flows(EXAMPLE, (), AT_B)
        y = Fraction(1, 4)
        flow = 1 / (13 + 1000 * y)
        self.assertEqual([value(volts[bus], y) / value(den, y) for bus in "ab"], [1 - 3 * flow, 250 * flow])
        self.assertEqual(value(into[AB1], y), -value(into[AB0], y))

    def test_ways_through_the_faulty_bus_and_sources_at_it(self):
        for opened in ((), (("twin", 0),), (("ab", 0), ("twin", 1)), (("h", 0),), (("g", 0),), (("g", 0), ("h", 0)), (("ab", 1), ("bc", 0), ("twin", 0))):
            for bus in KINDS[0]:
                self.assert_flows(KINDS, opened, (("bus", bus), None, 7), [Fraction(1, 5), Fraction(9, 10)])

    def test_faulty_lines_with_their_breakers_open(self):
        for line in ("ab", "twin", "bc"):
            for ends in ((), ((line, 0),), ((line, 1),), ((line, 0), (line, 1))):
                for more in ((), (("g", 0),), (("h", 0),), (("g", 0), ("h", 0))):
                    opened = tuple(sorted(ends + more))
                    self.assert_flows(KINDS, opened, (("line", line), (2, 7), 13), [Fraction(1, 5), Fraction(9, 10)])
        den, volts, into = arc_flows(KINDS, (("ab", 0), ("ab", 1)), (("line", "ab"), (1, 2), 5))
        self.assertEqual({into[(name, end)] for name in ("ab", "bc", "twin") for end in (0, 1)}, {((0, 1),) * 3})

    def test_a_line_between_two_sources(self):
        # Both ends feed the fault, however weak one of them is: nothing goes through it from end to end.
        net = (("a", "b"), (("ab", "a", "b", 1),), (("g", "a", 1), ("h", "b", 100)), (), ((0, 1), 1, 1, 1))
        for place in ((1, 2), (1, 100), (99, 100)):
            den, volts, into = self.assert_flows(net, (), (("line", "ab"), place, 1000), [Fraction(1, 2), Fraction(99, 100)])
            for end in (0, 1):
                self.assertGreater(value(into[("ab", end)], Fraction(99, 100)), 0)

    def test_a_small_resistance_is_like_none(self):
        for fault, place in ((("bus", "b"), None), (("line", "bc"), (1, 3)), (("line", "ab"), (3, 4))):
            den, volts, into = arc_flows(KINDS, (), (fault, place, 1))
            bare, bare_volts, bare_into = flows(KINDS, (), fault)
            x = 0 if place is None else Fraction(*place)
            self.assertEqual({bus: value(volts[bus], 0) / value(den, 0) for bus in volts}, {bus: value(bare_volts[bus], x) / value(bare, x) for bus in volts})
            self.assertEqual({one: value(into[one], 0) / value(den, 0) for one in into}, {one: value(bare_into[one], x) / value(bare, x) for one in into})

    def test_drawn_nets(self):
        draw = random.Random(131)
        for _ in range(250):
            net = draw.choice((wild_net, net_of_all_kinds, hazy_net))(draw)
            opened = tuple(breaker for breaker in breakers_of(net) if draw.random() < 0.2)
            arc = drawn_arc(draw, net)
            told = self.assert_flows(net, opened, arc, [Fraction(draw.randint(1, 999), 1000) for _ in range(2)])
            for poly in [told[0], *told[1].values(), *told[2].values()]:
                # All is of degree 1.
                self.assertEqual(poly[2], (0, 1))


class Seeing(unittest.TestCase):
    def test_attributes(self):
        for arc in (AT_A, ON_AB):
            for place in ((1, 2), ROOTS[0]):
                seen = ArcSeen(EXAMPLE, arc, place)
                self.assertIsInstance(seen, Seen)
                self.assertEqual((seen.net, seen.fault, seen.place), (EXAMPLE, arc[0], place))
                for opened in ((), (AB0,), (G,)):
                    self.assertEqual(seen.flows_at(opened), arc_flows(EXAMPLE, opened, arc))

    def test_by_hand(self):
        # Into a's arc flows 1 / (3 + 1000 y): surely as much as 1/1000 up to 9967/11000, perhaps behind that.
        for place, wanted in (((1, 2), 2), ((9967, 11000), 2), ((9968, 11000), 1), ((99, 100), 1), (("root", (-1, 1, 1), 1), 2)):
            self.assertEqual(ArcSeen(EXAMPLE, AT_A, pair(*place) if place[0] != "root" else place).at(())[3:5], (wanted, wanted))
        self.assertEqual(ArcSeen(EXAMPLE, AT_A, (99, 100)).at((AB0,))[3:5], (1, 1))
        self.assertEqual(ArcSeen(EXAMPLE, AT_A, (99, 100)).at((G,)), (0,) * 7)

    def test_drawn_nets(self):
        draw = random.Random(132)
        kinds = []
        for _ in range(250):
            net = draw.choice((wild_net, hazy_net, kept_net, spoiled_net))(draw)
            arc = drawn_arc(draw, net)
            place = draw.choice([pair(draw.randint(1, 99), 100), *ROOTS])
            seen, here = ArcSeen(net, arc, place), ArcFault(net, arc, place)
            for _ in range(3):
                opened = tuple(breaker for breaker in breakers_of(net) if draw.random() < 0.2)
                self.assertEqual(seen.at(opened), here.sees(opened))
                kinds += seen.at(opened)
        self.assertTrue(min(kinds.count(sight) for sight in (0, 1, 2)) > 20)


class Case(unittest.TestCase):
    def assert_cells(self, verdicts):
        """Assert that the cells of verdicts go from 0 to 1."""
        self.assertIs(type(verdicts), tuple)
        end = (0, 1)
        for at, (cell, _) in enumerate(verdicts):
            if at % 2:
                self.assertEqual(cell, ("at", end))
            else:
                self.assertEqual(cell[:2], ("between", end))
                self.assertEqual(order_of(end, cell[2]), -1)
                end = cell[2]
        self.assertEqual(end, (1, 1))

    def assert_verdict(self, net, arc, y, verdict, failings):
        """Assert that a verdict is right at a y, some failings being gone through; return its word."""
        here = ArcFault(net, arc, y)
        if verdict[0] == "astray":
            _, failing, run = verdict
            self.assertEqual((type(verdict), len(verdict), len(run)), (tuple, 3, net[4][3] + 1))
            self.assertEqual(run[0], ((), (0,) * len(net[3]), ()))
            self.assertTrue(all(then in here.followers(standing, failing) for standing, then in zip(run, run[1:])))
            self.assertFalse(here.is_right(run[-1], failing))
        else:
            word, pairs = verdict
            self.assertEqual((word, type(pairs), [failing for failing, _ in pairs]), ("selective", tuple, apart.failings_of(net)))
            for failing in failings:
                self.assertTrue(here.is_saved(failing))
                lots = dict(pairs)[failing]
                for lot, own in zip(lots, here.lots(failing)):
                    self.assertLessEqual(own, set(lot))
        return verdict[0]

    def assert_judged(self, net, arc, draw, many=2):
        """Assert that the verdicts on an arc are right at drawn y; return them."""
        verdicts = judge_arc(net, arc)
        self.assert_cells(verdicts)
        self.assertIs(arc_holds(net, arc, verdicts), True)
        failings = apart.failings_of(net)
        for cell, verdict in verdicts if len(verdicts) < 12 else draw.sample(verdicts, 12):
            ys = [sample(cell)]
            if cell[0] == "between":
                low, high = Fraction(*cell[1]), Fraction(*cell[2])
                y = low + (high - low) * Fraction(draw.randint(1, 99), 100)
                ys.append((y.numerator, y.denominator))
            for y in ys:
                self.assert_verdict(net, arc, y, verdict, draw.sample(failings, min(many, len(failings))))
        return verdicts


class Judging(Case):
    def test_the_example(self):
        draw = random.Random(133)
        for arc in (AT_A, AT_B, ON_AB, (("line", "ab"), (9, 10), 3), (("bus", "a"), None, 1)):
            self.assert_judged(EXAMPLE, arc, draw, 10)
        verdicts = judge_arc(EXAMPLE, AT_A)
        self.assertEqual([(cell[1], verdict[0]) for cell, verdict in verdicts if verdict[0] == "astray"][0], ((9967, 11000), "astray"))
        self.assertEqual(dict(verdicts)[("at", (9967, 11000))][0], "selective")
        self.assertEqual({verdict[0] for _, verdict in judge_arc(EXAMPLE, (("bus", "a"), None, 906))}, {"selective"})
        self.assertEqual({verdict[0] for _, verdict in judge_arc(EXAMPLE, (("bus", "a"), None, 907))}, {"selective", "astray"})

    def test_selective_again_with_more(self):
        # q orders the source open behind b wherever enough flows: only b's arcs of some resistance on are let alone.
        told = ("over", G, (1, 100), False)
        net = with_rules(with_guards(EXAMPLE, [*EXAMPLE[3][:6], ("q", told, 0, (G,))]), error=(0, 1))
        verdicts = self.assert_judged(net, AT_B, random.Random(134), 4)
        words = [verdict[0] for _, verdict in verdicts]
        self.assertEqual(words[0], "astray")
        self.assertEqual(safe_up_to(verdicts)[1], (0, 1))

    def test_what_is_not_fed(self):
        verdicts = judge_arc(KINDS, (("bus", "lone"), None, 9))
        self.assert_cells(verdicts)
        self.assertEqual({verdict[0] for _, verdict in verdicts}, {"selective"})

    def test_drawn_nets(self):
        draw = random.Random(135)
        words = {"selective": 0, "astray": 0, "both": 0, "cells": 0}
        for _ in range(160):
            net = draw.choice((wild_net, hazy_net, kept_net, kept_net, spoiled_net, slow_net))(draw)
            verdicts = self.assert_judged(net, drawn_arc(draw, net), draw)
            found = {verdict[0] for _, verdict in verdicts}
            for word in found:
                words[word] += 1
            words["both"] += len(found) == 2
            words["cells"] += len(verdicts)
        self.assertTrue(all(many > 15 for many in words.values()), words)

    def test_a_selective_net_is_so_with_small_resistances(self):
        draw = random.Random(136)
        for _ in range(30):
            net = kept_net(draw)
            if judge(net)[0] == "selective":
                verdicts = judge_arc(net, drawn_arc(draw, net, (1,)))
                self.assertEqual(verdicts[0][1][0], "selective")

    def test_asked_twice(self):
        first, other = judge_arc(EXAMPLE, AT_A), judge_arc(EXAMPLE, ON_AB)
        self.assertEqual((judge_arc(EXAMPLE, AT_A), judge_arc(EXAMPLE, ON_AB), judge_arc(EXAMPLE, AT_A)), (first, other, first))


def slow_net(draw):
    """Return a net whose guards see less the more resistance a fault has."""
    net = kept_net(draw, draw.randint(1, 2))
    guards = [(name, (*told[:2], pair(draw.randint(1, 30), 100)) if told[0] == "difference" else told, delay, opens)
              for name, told, delay, opens in net[3]]
    return with_guards(net, guards)


def cells_of(*places):
    """Return the cells between 0, places and 1."""
    out, last = [], (0, 1)
    for place in places:
        out += [("between", last, place), ("at", place)]
        last = place
    return out + [("between", last, (1, 1))]


class Holding(Case):
    @classmethod
    def setUpClass(cls):
        cls.net = with_rules(EXAMPLE, ticks=8)
        cls.verdicts = judge_arc(cls.net, AT_A)

    def assert_holds(self, verdicts, wanted, net=None, arc=AT_A):
        self.assertIs(arc_holds(net or self.net, arc, verdicts), wanted)

    def own_verdicts(self, net, arc, cells):
        """Return verdicts worked out apart, on some cells."""
        out = []
        for cell in cells:
            here = ArcFault(net, arc, sample(cell))
            pairs = []
            for failing in apart.failings_of(net):
                lots = here.lots(failing)
                if not all(here.is_right(standing, failing) for standing in lots[-1]):
                    break
                pairs.append((failing, tuple(tuple(lot) for lot in lots)))
            else:
                out.append((cell, ("selective", tuple(pairs))))
                continue
            run = [((), (0,) * len(net[3]), ())]
            self.assertTrue(self.prolong(here, failing, run, net[4][3]))
            out.append((cell, ("astray", failing, tuple(run))))
        return tuple(out)

    def prolong(self, here, failing, run, ticks):
        """Prolong a run to one that ends wrong; return whether there is one."""
        if len(run) > ticks:
            return not here.is_right(run[-1], failing)
        for then in sorted(here.followers(run[-1], failing)):
            run.append(then)
            if self.prolong(here, failing, run, ticks):
                return True
            run.pop()
        return False

    def test_verdicts_of_judge_arc(self):
        self.assert_holds(self.verdicts, True)
        for net, arc in ((EXAMPLE, AT_A), (EXAMPLE, ON_AB), (EXAMPLE, AT_B), (KINDS, (("line", "ab"), (1, 2), 50)), (VILLAGE, (("bus", "a"), None, 30))):
            self.assert_holds(judge_arc(net, arc), True, net, arc)

    def test_verdicts_of_others(self):
        edge = (9967, 11000)
        for cells in (cells_of(edge), cells_of((1, 2), edge), cells_of(edge, (99, 100)), cells_of(("root", (-1, 1, 1), 1), edge),
                      cells_of((1, 10 ** 20), (1, 3), edge, (999, 1000))):
            self.assert_holds(self.own_verdicts(self.net, AT_A, cells), True)
        # A cell that is too wide, or with an end a little beside the edge.
        for cells in (cells_of(), cells_of((1, 2)), cells_of((99, 100)), cells_of((9967 * 10 ** 9 + 1, 11 * 10 ** 12)),
                      cells_of((9967 * 10 ** 9 - 1, 11 * 10 ** 12))):
            self.assert_holds(self.own_verdicts(self.net, AT_A, cells), False)

    def test_anything(self):
        for thing in strange_things():
            self.assert_holds(thing, False)
            self.assert_holds((thing,), False)
            self.assert_holds((*self.verdicts, thing), False)
            for at in range(len(self.verdicts)):
                self.assert_holds(changed(self.verdicts, (at,), thing), False)
                self.assert_holds(changed(self.verdicts, (at, 0), thing), False)
                self.assert_holds(changed(self.verdicts, (at, 1), thing), False)
                if not (thing is None and self.verdicts[at][1][0] == "astray"):
                    self.assert_holds(changed(self.verdicts, (at, 1, 1), thing), False)
        for arc in strange_things():
            self.assert_holds(self.verdicts, False, arc=arc)

    def test_anything_anywhere(self):
        draw = random.Random(137)
        things = [None, True, False, 1.0, 10 ** 5000, -1, 100, "", "a", b"a", (), [], {}, Awkward(), (Awkward(),), ((),)]
        paths = paths_of(self.verdicts)
        for path in draw.sample(paths, 250):
            for thing in draw.sample(things, 4):
                part = at_path(self.verdicts, path)
                # Nothing failing, and nothing open or ordered, are told by such things.
                if not (isinstance(part, (tuple, type(None))) and (thing is None or thing is things[10])):
                    self.assert_holds(changed(self.verdicts, path, thing), False)
            if isinstance(part, tuple):
                self.assert_holds(changed(self.verdicts, path, list(part)), False)
            if type(part) is int and part in (0, 1):
                self.assert_holds(changed(self.verdicts, path, bool(part)), False)

    def test_cells_and_pairs_that_lack_or_stand_elsewhere(self):
        verdicts = self.verdicts
        for at in range(len(verdicts)):
            self.assert_holds(verdicts[:at] + verdicts[at + 1:], False)
            self.assert_holds(verdicts[:at] + verdicts[at:at + 1] + verdicts[at:], False)
            if at:
                self.assert_holds((*verdicts[:at - 1], verdicts[at], verdicts[at - 1], *verdicts[at + 1:]), False)
            if verdicts[at][1][0] == "selective":
                pairs = verdicts[at][1][1]
                for other in (pairs[1:], pairs[:-1], pairs[::-1], pairs + pairs[-1:], (*pairs[1:], pairs[0]), list(pairs),
                              (pairs[0], pairs[2], pairs[1], *pairs[3:]), tuple((failing,) for failing, _ in pairs), dict(pairs)):
                    self.assert_holds(changed(verdicts, (at, 1, 1), other), False)
        last = verdicts[-1][1]
        for more in ((("at", (1, 1)),), (("at", (1, 1)), ("between", (1, 1), (1, 1))), (("between", (1, 1), (1, 1)),)):
            self.assert_holds((*verdicts, *[(cell, last) for cell in more]), False)
        for more in ((("at", (0, 1)),), (("between", (0, 1), (0, 1)), ("at", (0, 1)))):
            self.assert_holds((*[(cell, verdicts[0][1]) for cell in more], *verdicts), False)
        self.assert_holds(verdicts[::-1], False)
        self.assert_holds(verdicts + verdicts, False)
        self.assert_holds((), False)
        self.assert_holds(list(verdicts), False)

    def test_words_and_verdicts_changed(self):
        verdicts = self.verdicts
        for at, (cell, verdict) in enumerate(verdicts):
            for word in ("selective", "astray", "Astray", "", None):
                self.assert_holds(changed(verdicts, (at, 1, 0), word), word == verdict[0])
            for other in range(len(verdicts)):
                self.assert_holds(changed(verdicts, (at, 1), verdicts[other][1]), verdicts[other][1] == verdict)
            self.assert_holds(changed(verdicts, (at, 1), (*verdict, 0)), False)
            self.assert_holds(changed(verdicts, (at, 1), verdict[:-1]), False)

    def test_lots_changed(self):
        draw = random.Random(138)
        for at, (cell, verdict) in enumerate(self.verdicts):
            if verdict[0] == "selective":
                for _ in range(40):
                    row, tick = draw.randrange(len(verdict[1])), draw.randrange(9)
                    lot = verdict[1][row][1][tick]
                    left = draw.randrange(len(lot))
                    path = (at, 1, 1, row, 1)
                    self.assert_holds(changed(self.verdicts, (*path, tick), lot[:left] + lot[left + 1:]), False)
                    self.assert_holds(changed(self.verdicts, (*path, tick), lot[::-1] + lot), True)
                    lots = verdict[1][row][1]
                    for other in (lots[:-1], lots + lots[-1:], lots[1:], ()):
                        self.assert_holds(changed(self.verdicts, path, other), False)
                for row in range(len(verdict[1])):
                    lot = verdict[1][row][1][-1]
                    self.assert_holds(changed(self.verdicts, (at, 1, 1, row, 1, 8), (*lot, ((), (0,) * 7, ()))), False)

    def test_runs_changed(self):
        for at, (cell, verdict) in enumerate(self.verdicts):
            if verdict[0] == "astray":
                run = verdict[2]
                here = ArcFault(self.net, AT_A, sample(cell))
                for tick in range(len(run)):
                    for other in (run[:tick] + run[tick + 1:], run[:tick + 1] + run[tick:], run[:tick] + (((G,), (0,) * 7, ()),) + run[tick + 1:]):
                        self.assert_holds(changed(self.verdicts, (at, 1, 2), other), False)
                for failing in apart.failings_of(self.net):
                    wanted = all(then in here.followers(standing, failing) for standing, then in zip(run, run[1:]))
                    wanted = wanted and not here.is_right(run[-1], failing)
                    self.assert_holds(changed(self.verdicts, (at, 1, 1), failing), wanted)
                for failing in (("guard", "zz"), "d1", ("breaker", G), ("breaker", ("ab", False)), 0):
                    self.assert_holds(changed(self.verdicts, (at, 1, 1), failing), False)

    def test_another_net_or_arc(self):
        for net in (EXAMPLE, with_guards(self.net, self.net[3][1:]), with_rules(self.net, most=3), with_rules(self.net, error=(0, 1))):
            self.assert_holds(self.verdicts, False, net)
        for arc in (AT_B, ON_AB, (("bus", "a"), None, 999), (("bus", "a"), None, 10)):
            self.assert_holds(self.verdicts, False, arc=arc)

    def test_polynomials_of_eyes_that_do_nothing(self):
        # q is too slow to do anything; what it sees counts all the same.
        net = with_guards(self.net, [*self.net[3], ("q", ("over", AB0, (1, 50), True), 20, (G,))])
        for arc in (AT_B, ON_AB):
            verdicts = judge_arc(net, arc)
            self.assert_holds(verdicts, True, net, arc)
            places = [cell[1] for cell, _ in verdicts if cell[0] == "at"]
            for left in range(len(places)):
                cells = cells_of(*places[:left], *places[left + 1:])
                own = self.own_verdicts(net, arc, cells)
                self.assert_holds(own, False, net, arc)

    def test_drawn_nets(self):
        draw = random.Random(139)
        for _ in range(60):
            net = draw.choice((wild_net, hazy_net, kept_net, slow_net))(draw)
            arc = drawn_arc(draw, net)
            verdicts = judge_arc(net, arc)
            self.assert_holds(verdicts, True, net, arc)
            at = draw.randrange(len(verdicts))
            self.assert_holds(verdicts[:at] + verdicts[at + 1:], False, net, arc)


class SafeUpTo(unittest.TestCase):
    def test_first_astray_cells(self):
        no, yes = ("astray", None, ()), ("selective", ())
        cells = cells_of((1, 3), (1, 2))
        for words in ((yes,) * 5, (no,) * 5, (yes, yes, no, yes, yes), (yes, no, no, no, yes), (yes, yes, yes, yes, no)):
            wanted = cells[words.index(no)] if no in words else None
            self.assertEqual(safe_up_to(tuple(zip(cells, words))), wanted)
        self.assertIsNone(safe_up_to(()))

    def test_samples(self):
        self.assertEqual(safe_up_to(judge_arc(EXAMPLE, AT_A))[:2], ("between", (9967, 11000)))
        self.assertIsNone(safe_up_to(judge_arc(EXAMPLE, (("bus", "a"), None, 10))))
        self.assertEqual(safe_up_to(judge_arc(with_guards(EXAMPLE, []), AT_A))[:2], ("between", (0, 1)))


if __name__ == "__main__":
    unittest.main()
