"""[16] Judging."""

import random
import time
import unittest
from fractions import Fraction

import apart
from drawn import kept_net, pair, spoiled_net, wild_net
from justthepart.searching import judge
from justthepart.world import followers, is_right
from justthepart.seeing import Seen
from samples import EXAMPLE, VILLAGE, faults_of, turning_net, with_guards, with_rules


class Case(unittest.TestCase):
    def assert_no(self, net, verdict):
        """Assert that a verdict is a right no."""
        self.assertIs(type(verdict), tuple)
        word, fault, place, failing, run = verdict
        self.assertEqual(word, "astray")
        self.assertIn(fault, faults_of(net))
        self.assertIn(failing, apart.failings_of(net))
        self.assertEqual(place is None, fault[0] == "bus")
        self.assertEqual(len(run), net[4][3] + 1)
        self.assertTrue(apart.is_run(net, fault, place, failing, run))
        self.assertFalse(apart.Fault(net, fault, place).is_right(run[-1], failing))

    def assert_yes(self, net, verdict, draw, many=2):
        """Assert that a verdict is a yes, and right at drawn places, and some of those where rows of its paper change."""
        word, paper = verdict
        self.assertEqual(word, "selective")
        for fault in faults_of(net):
            cells = list(dict.fromkeys(row[1] for row in paper if row[0] == fault))
            places = [None]
            if fault[0] == "line":
                at = [cell[1] for cell in cells if cell[0] == "at"]
                places = [pair(draw.randint(1, 199), 200) for _ in range(many)] + draw.sample(at, min(many, len(at)))
            for place in places:
                here = apart.Fault(net, fault, place)
                lots = {failing: lots for of, cell, failing, lots in paper
                        if of == fault and (cell is None or cell == ("at", place))}
                for failing in draw.sample(apart.failings_of(net), min(3, len(apart.failings_of(net)))):
                    self.assertTrue(here.is_saved(failing), (net, fault, place, failing))
                    if lots:
                        self.assertEqual([set(lot) for lot in lots[failing]], here.lots(failing))

    def astray_at(self, net, fault, places):
        """Return the set of (place, failing) with which some run of a fault ends wrong, worked out apart."""
        out = set()
        for place in places:
            here = apart.Fault(net, fault, place)
            out |= {(place, failing) for failing in apart.failings_of(net) if not here.is_saved(failing)}
        return out


class Forms(Case):
    def test_a_yes(self):
        word, paper = judge(EXAMPLE)
        self.assertEqual(word, "selective")
        self.assertIs(type(paper), tuple)
        many = len(apart.failings_of(EXAMPLE))
        self.assertEqual([row[0] for row in paper[:2 * many:many]], [("bus", "a"), ("bus", "b")])
        for at, (fault, cell, failing, lots) in enumerate(paper):
            self.assertEqual(failing, apart.failings_of(EXAMPLE)[at % many])
            self.assertEqual(cell is None, fault[0] == "bus")
            self.assertEqual((type(lots), len(lots)), (tuple, 11))
            self.assertIn(((), (0,) * 7, ()), lots[0])
        self.assertEqual({row[0] for row in paper[2 * many:]}, {("line", "ab")})

    def test_a_no(self):
        for net in (with_guards(EXAMPLE, EXAMPLE[3][2:]), with_guards(EXAMPLE, []), with_rules(EXAMPLE, ticks=1)):
            self.assert_no(net, judge(net))

    def test_asked_twice(self):
        net = with_guards(EXAMPLE, EXAMPLE[3][1:])
        first, other = judge(EXAMPLE), judge(net)
        self.assertEqual((judge(EXAMPLE), judge(net), judge(EXAMPLE)), (first, other, first))


class Examples(Case):
    def test_the_village_and_its_power_station(self):
        draw = random.Random(1)
        self.assert_yes(EXAMPLE, judge(EXAMPLE), draw, 9)
        # Without some of its guards it is selective still, without others it is not.
        for at, guard in enumerate(EXAMPLE[3]):
            net = with_guards(EXAMPLE, [other for other in EXAMPLE[3] if other != guard])
            verdict = judge(net)
            with self.subTest(guard=guard[0]):
                if any(self.astray_at(net, fault, [None if fault[0] == "bus" else (1, 7)]) for fault in faults_of(net)):
                    self.assert_no(net, verdict)
                else:
                    self.assert_yes(net, verdict, draw, 5)

    def test_one_bus(self):
        self.assertEqual(judge(VILLAGE)[0], "selective")
        self.assert_yes(VILLAGE, judge(VILLAGE), random.Random(2))
        for guards in ((), VILLAGE[3][:1], VILLAGE[3][1:]):
            self.assert_no(with_guards(VILLAGE, guards), judge(with_guards(VILLAGE, guards)))
        self.assert_no(with_rules(VILLAGE, ticks=2), judge(with_rules(VILLAGE, ticks=2)))

    def test_no_guards(self):
        for net in (with_guards(EXAMPLE, []), with_guards(VILLAGE, [])):
            verdict = judge(net)
            self.assert_no(net, verdict)
            self.assertEqual(set(verdict[4]), {((), (), ())})

    def test_a_bus_that_is_never_fed_needs_no_guard(self):
        net = ((*VILLAGE[0], "z"), *VILLAGE[1:])
        self.assert_yes(net, judge(net), random.Random(3))

    def test_lines_beside_each_other(self):
        base = (("a", "b"), (("x", "a", "b", 4), ("y", "a", "b", 6)), (("g", "a", 1),), (), ((0, 1), 1, 1, 12))
        opens = {"x": (("x", 0), ("x", 1)), "y": (("y", 0), ("y", 1)), "a": (("g", 0), ("x", 0), ("y", 0)),
                 "b": (("x", 1), ("y", 1))}
        guards = [(f"{part}{at}", ("difference", part, (1, 1000)), 0, what) for part, what in opens.items() for at in (1, 2)]
        ends = (("x", 0), ("g", 0), ("y", 0)), (("x", 1), ("y", 1)), (("y", 0), ("g", 0), ("x", 0)), (("y", 1), ("x", 1))
        behind = [(f"f{at}", ("behind", breaker), 2, tuple(sorted([(breaker[0], 1 - breaker[1]), *rest])))
                  for at, (breaker, *rest) in enumerate(ends)]
        net = with_guards(base, guards + behind)
        self.assert_yes(net, judge(net), random.Random(4), 4)
        for left in range(len(net[3])):
            less = with_guards(net, net[3][:left] + net[3][left + 1:])
            self.assert_no(less, judge(less))

    def test_where_a_polynomial_touches_0(self):
        # Into a fault in the middle of ab flows 1, elsewhere more: the bound of q is just met there.
        base = (("a", "b"), (("ab", "a", "b", 2),), (("g", "a", 1), ("h", "b", 1)), (), ((0, 1), 1, 1, 9))
        guards = [(name, ("difference", "ab", (1, 1)), 0, (("ab", 0), ("ab", 1))) for name in ("d1", "d2")]
        for bus, opens in (("a", (("ab", 0), ("g", 0))), ("b", (("ab", 1), ("h", 0)))):
            guards += [(f"{bus}{at}", ("difference", bus, (1, 1000)), 0, opens) for at in (1, 2)]
        guards += [("f0", ("behind", ("ab", 0)), 1, (("ab", 1), ("g", 0))), ("f1", ("behind", ("ab", 1)), 1, (("ab", 0), ("h", 0)))]
        net = with_guards(base, guards)
        verdict = judge(net)
        self.assert_yes(net, verdict, random.Random(5), 4)
        self.assertIn(("at", (1, 2)), [row[1] for row in verdict[1]])
        # With a bound a little greater it is not met around the middle, with more in the fewest places.
        for bound in ((1000, 999), (101, 100)):
            more = with_guards(base, [(name, ("difference", "ab", bound), 0, opens) for name, _, _, opens in guards[:2]] + guards[2:])
            self.assert_no(more, judge(more))

    def test_astray_at_one_place_only(self):
        net = turning_net()
        fault = ("line", "l1")
        verdict = judge(net)
        self.assert_no(net, verdict)
        self.assertEqual(verdict[1:4], (fault, (1, 4), ("guard", "d")))
        near = [(1, 1000), (1, 5), (249999999, 10 ** 9), (250000001, 10 ** 9), (1, 2), (3, 4), (999, 1000)]
        self.assertEqual(self.astray_at(net, fault, near + [(1, 4)]), {((1, 4), ("guard", "d"))})
        # Without the one place, it is selective: with bounds that leave a gap, or a last one that is never met.
        draw = random.Random(6)
        for bounds in (("445/1000", "2/9", "8/23"), ("4/9", "223/1000", "8/23"), ("4/9", "2/9", "9/25")):
            other = turning_net(*bounds)
            word, paper = judge(other)
            self.assertEqual(word, "selective")
            self.assertEqual(self.astray_at(other, fault, [(1, 4), pair(draw.randint(1, 99), 100)]), set())

    def test_astray_at_a_few_places_only(self):
        fault = ("line", "l1")
        for bounds in (("443/1000", "2/9", "8/23"), ("4/9", "221/1000", "8/23")):
            net = turning_net(*bounds)
            verdict = judge(net)
            self.assert_no(net, verdict)
            self.assertEqual((verdict[1], verdict[3]), (fault, ("guard", "d")))
            self.assertEqual(self.astray_at(net, fault, [(1, 20), (1, 5), (3, 10), (1, 2), (9, 10)]), set())

    def test_astray_with_one_thing_failing_only(self):
        # Without one of two that guard the same part, nothing goes wrong unless the other one fails.
        draw = random.Random(7)
        found = 0
        for _ in range(12):
            net = kept_net(draw, 2)
            if judge(net)[0] == "selective" and net[1]:
                less = with_guards(net, net[3][1:])
                verdict = judge(less)
                self.assert_no(less, verdict)
                self.assertEqual(verdict[3], ("guard", net[3][1][0]))
                for fault in faults_of(less):
                    place = None if fault[0] == "bus" else (1, 3)
                    failings = {failing for _, failing in self.astray_at(less, fault, [place])}
                    self.assertLessEqual(failings, {("guard", net[3][1][0])})
                    found += len(failings)
        self.assertGreater(found, 5)

    def test_astray_for_one_choice_of_the_world_only(self):
        # q sees perhaps at most, near a only; it must be told yes on three ticks, while ab.0 opens as late as it may.
        net = with_guards(EXAMPLE, [*EXAMPLE[3], ("q", ("over", ("g", 0), (1, 3), False), 2, (("g", 0),))])
        verdict = judge(net)
        self.assert_no(net, verdict)
        fault, place, failing, run = verdict[1:]
        self.assertEqual((fault, failing), (("line", "ab"), None))
        self.assertLessEqual(apart.number_of(place), Fraction(1, 30))
        here = apart.Fault(net, fault, place)
        self.assertEqual(here.sees(())[-1], 1)
        runs = [[((), (0,) * 8, ())]]
        for _ in range(net[4][3]):
            runs = [[*run, then] for run in runs for then in here.followers(run[-1], None)]
        wrong = [run for run in runs if not here.is_right(run[-1], None)]
        self.assertIn(list(run), [list(one) for one in wrong])
        for one in wrong:
            self.assertEqual([standing[1][-1] for standing in one[:4]], [0, 1, 2, 3])
            self.assertNotIn(("ab", 0), one[2][0])
        self.assertGreater(len(runs), 3 * len(wrong))
        # With a delay of one tick more, or breakers that are never so late, nothing goes wrong.
        late = with_guards(EXAMPLE, [*EXAMPLE[3], ("q", ("over", ("g", 0), (1, 3), False), 3, (("g", 0),))])
        self.assert_yes(late, judge(late), random.Random(8), 4)
        soon = with_rules(net, most=1)
        self.assert_yes(soon, judge(soon), random.Random(8), 4)
        self.assertEqual(self.astray_at(net, fault, [(1, 29), (1, 2)]), set())

    def test_astray_on_the_last_tick_only(self):
        self.assertEqual([judge(with_rules(EXAMPLE, ticks=ticks))[0] for ticks in range(5, 10)],
                         ["astray", "astray", "selective", "selective", "selective"])
        net = with_rules(EXAMPLE, ticks=6)
        verdict = judge(net)
        self.assert_no(net, verdict)
        # One tick more, and this run is right.
        more = followers(net, Seen(net, *verdict[1:3]), verdict[4][-1], verdict[3])
        self.assertTrue(all(is_right(net, Seen(net, *verdict[1:3]), then, verdict[3]) for then in more))

    def test_an_error_of_0(self):
        net = with_rules(EXAMPLE, error=(0, 1))
        self.assert_yes(net, judge(net), random.Random(9), 5)
        # A bound that is just met at b's fault, and one that is missed by little.
        for bound in ((1, 13), (77, 1000)):
            guards = [guard for guard in EXAMPLE[3] if guard[0] != "z1"]
            opens = (("ab", 0), ("ab", 1))
            guards += [(name, ("over", ("ab", 0), bound, True), 6, opens) for name in ("o1", "o2")]
            other = with_rules(with_guards(EXAMPLE, guards), error=(0, 1), ticks=20)
            verdict = judge(other)
            with self.subTest(bound=bound):
                self.assertEqual(verdict[0] == "selective", not self.astray_at(other, ("bus", "b"), [None]))
                if verdict[0] == "astray":
                    self.assert_no(other, verdict)


class Many(Case):
    """Nets in which many guards see perhaps: lots grow until something is opened."""

    def net_of(self, many, delay, rest, ticks):
        """Return a village with so many guards that see perhaps, and others."""
        # Into a fault of a flow 7/10, all in all; with an error of 1/10 that is perhaps as much as 7/10.
        told = [(f"q{at}", ("difference", "a", (7, 10)), delay, (("g", 0), ("h", 0))) for at in range(many)]
        return with_rules(with_guards(VILLAGE, told + rest), error=(1, 10), least=1, most=2, ticks=ticks)

    def test_selective_ones(self):
        # The other two order the sources on the third tick, so they are open behind the fifth one.
        sure = [(name, ("difference", "a", (1, 9)), 2, (("g", 0), ("h", 0))) for name in ("e1", "e2")]
        for delay in (1, 5):
            net = self.net_of(4, delay, sure, 5)
            verdict = judge(net)
            self.assert_yes(net, verdict, random.Random(11))
            self.assertGreater(max(len(lot) for row in verdict[1] for lot in row[3]), 100)
            less = with_rules(net, ticks=4)
            self.assert_no(less, judge(less))

    def test_astray_ones(self):
        # Only e1 sees surely; if it fails, the others may hesitate for ever.
        one = [("e1", ("difference", "a", (1, 9)), 0, (("g", 0), ("h", 0)))]
        for rest in ([], one):
            for many in (5, 12):
                net = self.net_of(many, 20, rest, 40)
                verdict = judge(net)
                self.assert_no(net, verdict)
                self.assertEqual(verdict[3], ("guard", "e1") if rest else None)

    def test_astray_if_all_are_eager(self):
        # What sees perhaps may open g, which feeds nothing but b's fault: there it must stay shut.
        sure = [(name, ("difference", "b", (1, 1000)), 3, (("ab", 0), ("ab", 1))) for name in ("e1", "e2")]
        told = [(f"q{at}", ("over", ("g", 0), (1, 13), False), 2, (("g", 0),)) for at in range(5)]
        net = with_rules(with_guards(EXAMPLE, [*EXAMPLE[3][:5], *sure, *told]), ticks=14)
        verdict = judge(net)
        self.assert_no(net, verdict)
        self.assertEqual(verdict[1], ("bus", "b"))


class Drawn(Case):
    def test_wild_nets(self):
        draw = random.Random(41)
        for _ in range(250):
            net = wild_net(draw)
            verdict = judge(net)
            if verdict[0] == "selective":
                self.assert_yes(net, verdict, draw)
            else:
                self.assert_no(net, verdict)

    def test_kept_nets(self):
        draw = random.Random(42)
        words = []
        for _ in range(120):
            net = kept_net(draw)
            if draw.random() < 0.3 and net[3]:
                net = with_guards(net, draw.sample(net[3], len(net[3]) - 1))
            verdict = judge(net)
            words.append(verdict[0])
            if verdict[0] == "selective":
                self.assert_yes(net, verdict, draw)
            else:
                self.assert_no(net, verdict)
        self.assertTrue(min(words.count("selective"), words.count("astray")) > 20, words)

    def test_spoiled_nets(self):
        # Nets that depend on where the fault is: also nos at places that are met by chance only.
        draw = random.Random(43)
        kinds = {"selective": 0, "astray": 0, "at a place": 0, "cells": 0}
        for _ in range(200):
            net = spoiled_net(draw)
            verdict = judge(net)
            kinds[verdict[0]] += 1
            if verdict[0] == "selective":
                self.assert_yes(net, verdict, draw)
                kinds["cells"] += len({(row[0], row[1]) for row in verdict[1] if row[1] and row[1][0] == "at"})
            else:
                self.assert_no(net, verdict)
                kinds["at a place"] += verdict[2] not in (None, (1, 2))
        self.assertTrue(all(many > 10 for many in kinds.values()), kinds)


class Time(Case):
    def test_small_nets_and_greater_ones(self):
        # Many times what it takes: for what grows without bound only.
        draw = random.Random(44)
        begin = time.perf_counter()
        for _ in range(200):
            judge(kept_net(draw, 2))
        self.assertLess(time.perf_counter() - begin, 30)
        begin = time.perf_counter()
        for _ in range(3):
            judge(kept_net(draw, 5))
        self.assertLess(time.perf_counter() - begin, 60)


if __name__ == "__main__":
    unittest.main()
