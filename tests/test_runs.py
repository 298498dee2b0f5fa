"""[18] Runs, and verdicts of any kind."""

import random
import unittest

import apart
from drawn import kept_net, pair, spoiled_net, wild_net
from justthepart.papers import goes_astray, verdict_holds
from justthepart.searching import judge
from samples import (EXAMPLE, KINDS, Awkward, at_path, changed, faults_of, paths_of, strange_things, with_guards, with_rules)

AB0, AB1, G = ("ab", 0), ("ab", 1), ("g", 0)
START = ((), (0,) * 7, ())

# Without the two that see the line's fault at once z2 is needed, which sees only what is near a.
SHORT = with_rules(with_guards(EXAMPLE, [*EXAMPLE[3][2:6], ("z2", ("reach", AB0, (5, 1)), 4, (AB0,))]), ticks=5)


def run_of(net, fault, place, failing, choice):
    """Return the run in which always the first, or last, standing of all follows."""
    here = apart.Fault(net, fault, place)
    run = [((), (0,) * len(net[3]), ())]
    while len(run) <= net[4][3]:
        run.append(sorted(here.followers(run[-1], failing))[choice])
    return tuple(run)


def is_no(net, fault, place, failing, run):
    """Return whether a run is one that ends wrong, worked out apart."""
    return apart.is_run(net, fault, place, failing, run) and not apart.Fault(net, fault, place).is_right(run[-1], failing)


class Case(unittest.TestCase):
    def assert_astray(self, net, thing, wanted):
        self.assertIs(goes_astray(net, thing), wanted)
        self.assertIs(verdict_holds(net, thing), wanted)


class Runs(Case):
    @classmethod
    def setUpClass(cls):
        run = run_of(SHORT, ("line", "ab"), (1, 10), None, -1)
        cls.no = ("astray", ("line", "ab"), (1, 10), None, run)
        cls.few = with_guards(EXAMPLE, EXAMPLE[3][:3])
        cls.at_bus = judge(cls.few)

    def test_the_runs_of_this_test(self):
        # The fault is not yet cut off behind five ticks, but z2 has ordered ab.0 by then.
        self.assertEqual(self.no[4][-2:], (((), (0, 0, 0, 0, 4), ()), ((), (0, 0, 0, 0, 5), ((AB0, 0),))))
        self.assertEqual(self.at_bus[1], ("bus", "a"))
        self.assert_astray(SHORT, self.no, True)
        self.assert_astray(self.few, self.at_bus, True)
        self.assert_astray(self.few, self.no, False)

    def test_verdicts_of_judge(self):
        for net in (EXAMPLE, SHORT, KINDS, self.few, with_guards(EXAMPLE, [])):
            verdict = judge(net)
            self.assertIs(goes_astray(net, verdict), verdict[0] == "astray")
            self.assertIs(verdict_holds(net, verdict), True)
        self.assertIs(verdict_holds(SHORT, ("selective", judge(EXAMPLE)[1])), False)
        self.assertIs(verdict_holds(EXAMPLE, ("selective", judge(EXAMPLE)[1][1:])), False)
        self.assertIs(verdict_holds(EXAMPLE, ("astray", judge(EXAMPLE)[1])), False)
        self.assertIs(verdict_holds(EXAMPLE, list(judge(EXAMPLE))), False)

    def test_anything(self):
        for thing in strange_things():
            self.assert_astray(SHORT, thing, False)
            self.assert_astray(SHORT, ("selective", thing), False)
            self.assert_astray(SHORT, ("selective", (), thing), False)
            self.assert_astray(SHORT, (thing, thing), False)
            for at in range(5):
                if not (at == 3 and thing is None):
                    self.assert_astray(SHORT, changed(self.no, (at,), thing), False)
        self.assert_astray(SHORT, self.no[:4], False)
        self.assert_astray(SHORT, (*self.no, ()), False)
        self.assert_astray(SHORT, list(self.no), False)
        for word in ("selective", "Astray", "", b"astray", ("astray",)):
            self.assert_astray(SHORT, (word, *self.no[1:]), False)

    def test_anything_anywhere(self):
        things = [10 ** 5000, 77, True, False, 1.0, -1, "zz", b"a", [], {}, Awkward(), (Awkward(),)]
        for net, no in ((SHORT, self.no), (self.few, self.at_bus)):
            for path in paths_of(no):
                part = at_path(no, path)
                for at, thing in enumerate(things):
                    # (1, 77) is a place nearer to a, where the same is seen.
                    self.assert_astray(net, changed(no, path, thing), path == (2, 1) and at < 2)
                if isinstance(part, tuple):
                    self.assert_astray(net, changed(no, path, list(part)), False)
                    self.assert_astray(net, changed(no, path, (*part, 0)), False)
                if type(part) is int and part in (0, 1):
                    self.assert_astray(net, changed(no, path, bool(part)), False)

    def test_other_faults(self):
        for fault in (("bus", "a"), ("bus", "b"), ("line", "a"), ("bus", "ab"), ("line", "zz"), ("bus", "zz"), ("source", "g"),
                      ["line", "ab"], "ab", ("line",), ("line", "ab", (1, 2))):
            self.assert_astray(SHORT, changed(self.no, (1,), fault), False)
        self.assert_astray(self.few, changed(self.at_bus, (1,), ("line", "ab")), False)
        self.assert_astray(self.few, changed(self.at_bus, (1,), ("bus", "b")), is_no(self.few, ("bus", "b"), None, *self.at_bus[3:]))

    def test_places(self):
        for place in (None, (0, 1), (1, 1), (2, 20), (11, 10), (-1, 10), (1, 0), 0.1, "1/10", [1, 10], (True, 10),
                      ("root", (1, -4, 2), 1), ("root", (2, -8, 4), 0), ("at", (1, 10)), (1, 2, 3)):
            self.assert_astray(SHORT, changed(self.no, (2,), place), False)
        for place in ((1, 10), (0, 1), 0, False, "", ()):
            self.assert_astray(self.few, changed(self.at_bus, (2,), place), False)

    def test_other_places_of_the_line(self):
        # z2 sees surely up to 9/20, perhaps up to 11/20, and surely not behind that.
        for place, wanted in (((1, 1000), True), (("root", (1, -4, 2), 0), True), ((9, 20), True), ((1, 2), True), ((11, 20), True),
                              ((111, 200), False), (("root", (-1, 1, 1), 1), False), ((9, 10), False)):
            self.assertEqual(is_no(SHORT, ("line", "ab"), place, *self.no[3:]), wanted)
            self.assert_astray(SHORT, changed(self.no, (2,), place), wanted)
        far = run_of(SHORT, ("line", "ab"), (9, 10), None, 0)
        for place, wanted in (((9, 20), False), ((91, 200), True), ((11, 20), True), ((3, 4), True), ((1, 10), False)):
            self.assertEqual(is_no(SHORT, ("line", "ab"), place, None, far), wanted)
            self.assert_astray(SHORT, ("astray", ("line", "ab"), place, None, far), wanted)

    def test_failings(self):
        for net, no in ((SHORT, self.no), (self.few, self.at_bus)):
            wanted = [is_no(net, *no[1:3], failing, no[4]) for failing in apart.failings_of(net)]
            self.assertIn(True, wanted)
            for failing, one in zip(apart.failings_of(net), wanted):
                self.assert_astray(net, changed(no, (3,), failing), one)
        for failing in (("guard", "d9"), ("guard", "zz"), ("guard", "ab"), ("breaker", G), ("breaker", ("ab", 2)), "f0", ("guard",),
                        ("breaker", ("ab", True)), ("guard", None), False, 0, (), ["guard", "f0"], ("guard", "f0", 1)):
            self.assert_astray(SHORT, changed(self.no, (3,), failing), False)

    def test_a_standing_left_out_put_in_or_changed(self):
        run = self.no[4]
        for at in range(len(run)):
            self.assert_astray(SHORT, (*self.no[:4], run[:at] + run[at + 1:]), False)
            self.assert_astray(SHORT, (*self.no[:4], run[:at + 1] + run[at:]), False)
            # As long as it must be, but a standing doubled, and another one left out.
            self.assert_astray(SHORT, (*self.no[:4], (run[:at + 1] + run[at:])[:len(run)]), at == len(run) - 1)
            self.assert_astray(SHORT, (*self.no[:4], (run[:1] + run[:at] + run[at + 1:])[-len(run):]), at == 0)
            for standing in (((), (0,) * 5, ()), ((AB0,), (0,) * 5, ()), ((), (9,) * 5, ()), ((), (0, 0, 0, 0, 3), ((AB0, 0),))):
                if standing != run[at]:
                    self.assert_astray(SHORT, changed(self.no, (4, at), standing), False)
        for other in (run[:-1], run + run[-1:], run[1:], (), run[::-1], run * 2, list(run)):
            self.assert_astray(SHORT, (*self.no[:4], other), False)

    def test_runs_of_other_ticks(self):
        for ticks in (1, 4, 6, 10):
            self.assert_astray(with_rules(SHORT, ticks=ticks), self.no, False)
        self.assert_astray(with_rules(SHORT, ticks=4), (*self.no[:4], self.no[4][:-1]), True)

    def test_a_run_that_ends_well(self):
        for failing in apart.failings_of(EXAMPLE):
            for fault in faults_of(EXAMPLE):
                place = None if fault[0] == "bus" else (1, 3)
                here = apart.Fault(EXAMPLE, fault, place)
                run = run_of(EXAMPLE, fault, place, failing, -1)
                self.assertTrue(here.is_right(run[-1], failing))
                self.assert_astray(EXAMPLE, ("astray", fault, place, failing, run), False)
                # With fewer ticks it may end ahead of that.
                for ticks in range(1, 10):
                    wanted = not here.is_right(run[ticks], failing)
                    net = with_rules(EXAMPLE, ticks=ticks)
                    self.assert_astray(net, ("astray", fault, place, failing, run[:ticks + 1]), wanted)

    def test_asked_twice(self):
        told = [goes_astray(SHORT, self.no), verdict_holds(EXAMPLE, judge(EXAMPLE)), goes_astray(self.few, self.at_bus)]
        self.assertEqual(told, [True] * 3)
        self.assertEqual(told, [goes_astray(SHORT, self.no), verdict_holds(EXAMPLE, judge(EXAMPLE)),
                                goes_astray(self.few, self.at_bus)])


class Drawn(Case):
    def test_verdicts_and_changed_runs(self):
        draw = random.Random(56)
        kinds = []
        for _ in range(120):
            net = draw.choice((wild_net, kept_net, spoiled_net))(draw)
            verdict = judge(net)
            self.assertIs(verdict_holds(net, verdict), True)
            self.assertIs(goes_astray(net, verdict), verdict[0] == "astray")
            if verdict[0] == "astray":
                _, fault, place, failing, run = verdict
                here = apart.Fault(net, fault, place)
                for _ in range(4):
                    at = draw.randrange(len(run))
                    other = changed(run, (at,), draw.choice(sorted(here.followers(run[max(at - 1, 0)], failing))))
                    self.assert_astray(net, ("astray", fault, place, failing, other), is_no(net, fault, place, failing, other))
                    kinds.append(is_no(net, fault, place, failing, other))
                if place is not None:
                    for _ in range(3):
                        other = pair(draw.randint(1, 39), 40)
                        kinds.append(is_no(net, fault, other, failing, run))
                        self.assert_astray(net, ("astray", fault, other, failing, run), kinds[-1])
        self.assertTrue(min(kinds.count(True), kinds.count(False)) > 20, (kinds.count(True), kinds.count(False)))


if __name__ == "__main__":
    unittest.main()
