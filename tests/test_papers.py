"""[17] Papers."""

import random
import unittest
from fractions import Fraction

import apart
from drawn import kept_net, pair, spoiled_net, wild_net
from justthepart.errors import BadPaper, GuardError
from justthepart.papers import check_paper, is_shown, verdict_holds
from justthepart.places import sample
from justthepart.searching import judge
from samples import (EXAMPLE, VILLAGE, Awkward, at_path, changed, faults_of, paths_of, strange_things, turning_net, with_guards,
                     with_rules)

START = ((), (0,) * 7, ())
AB0, AB1, G = ("ab", 0), ("ab", 1), ("g", 0)
WHOLE = ("between", (0, 1), (1, 1))
MANY = 10


def lots_at(net, fault, cell, failing):
    """Return the lots of a row, worked out apart."""
    here = apart.Fault(net, fault, None if cell is None else sample(cell))
    return tuple(tuple(sorted(lot)) for lot in here.lots(failing))


def own_paper(net, cells):
    """Return a paper worked out apart, on these cells of all lines."""
    rows = []
    for fault in faults_of(net):
        for cell in cells if fault[0] == "line" else [None]:
            rows += [(fault, cell, failing, lots_at(net, fault, cell, failing)) for failing in apart.failings_of(net)]
    return tuple(rows)


def cells_at(*places):
    """Return the cells between 0, places and 1."""
    out = []
    last = (0, 1)
    for place in places:
        out += [("between", last, place), ("at", place)]
        last = place
    return out + [("between", last, (1, 1))]


def with_row(paper, at, row):
    """Return a paper with another row."""
    return (*paper[:at], row, *paper[at + 1:])


def with_lot(paper, row, at, lot):
    """Return a paper with another lot."""
    return changed(paper, (row, 3, at), lot)


def closed(net, row, at, standing):
    """Return the lots of a row with a standing more behind a tick, and all that may follow it."""
    fault, cell, failing, lots = row
    here = apart.Fault(net, fault, None if cell is None else sample(cell))
    out = [list(lot) for lot in lots]
    more = {standing}
    for tick in range(at, len(lots)):
        out[tick] += sorted(more - set(out[tick]))
        more = set().union(*(here.followers(one, failing) for one in more))
    return tuple(tuple(lot) for lot in out)


class Case(unittest.TestCase):
    def assert_shown(self, net, paper):
        self.assertIsNone(check_paper(net, paper))
        self.assertIs(is_shown(net, paper), True)
        self.assertIs(verdict_holds(net, ("selective", paper)), True)

    def assert_not_shown(self, net, paper, why=""):
        self.assertIs(is_shown(net, paper), False)
        with self.assertRaises(BadPaper) as caught:
            check_paper(net, paper)
        self.assertIsInstance(caught.exception, GuardError)
        self.assertIn(why, caught.exception.why)


class Forms(Case):
    @classmethod
    def setUpClass(cls):
        cls.paper = judge(EXAMPLE)[1]

    def test_papers_of_judge(self):
        for net in (EXAMPLE, VILLAGE, with_rules(EXAMPLE, ticks=40), with_rules(EXAMPLE, error=(0, 1))):
            self.assert_shown(net, judge(net)[1])

    def test_papers_of_others(self):
        for cells in (cells_at(), cells_at((1, 2)), cells_at((1, 3), (1, 2)), cells_at(("root", (1, -4, 2), 0), (1, 2)),
                      cells_at((1, 10 ** 30))):
            self.assert_shown(EXAMPLE, own_paper(EXAMPLE, cells))
        self.assert_shown(VILLAGE, own_paper(VILLAGE, []))

    def test_anything(self):
        for thing in strange_things() + [[], list(self.paper), self.paper[0], {self.paper: 1}]:
            self.assert_not_shown(EXAMPLE, thing)
        for thing in strange_things():
            self.assert_not_shown(EXAMPLE, (thing,) * len(self.paper))
            self.assert_not_shown(EXAMPLE, (*self.paper[:-1], thing))
            self.assert_not_shown(EXAMPLE, (*self.paper, thing))

    def test_anything_anywhere(self):
        draw = random.Random(51)
        things = [None, True, False, 1.0, 10 ** 5000, -1, 100, "", "a", b"a", (), [], {}, Awkward(), (Awkward(),), ((),)]
        paths = paths_of(self.paper)
        for path in draw.sample(paths, 200):
            for thing in draw.sample(things, 4):
                # Nothing failing, and nothing open or ordered, are told by such things; all else is told by none of them.
                if not (isinstance(at_path(self.paper, path), (tuple, type(None))) and (thing is None or thing is things[10])):
                    self.assert_not_shown(EXAMPLE, changed(self.paper, path, thing))

    def test_a_list_in_the_place_of_a_tuple(self):
        draw = random.Random(52)
        paths = [path for path in paths_of(self.paper) if isinstance(at_path(self.paper, path), tuple)]
        for path in draw.sample(paths, 150):
            self.assert_not_shown(EXAMPLE, changed(self.paper, path, list(at_path(self.paper, path))))

    def test_bools_in_the_place_of_integers(self):
        draw = random.Random(53)
        paths = [path for path in paths_of(self.paper) if at_path(self.paper, path) in (0, 1)]
        for path in draw.sample(paths, 150):
            self.assert_not_shown(EXAMPLE, changed(self.paper, path, bool(at_path(self.paper, path))))

    def test_rows_that_lack_are_doubled_or_stand_elsewhere(self):
        paper = self.paper
        for at in range(len(paper)):
            self.assert_not_shown(EXAMPLE, paper[:at] + paper[at + 1:])
            self.assert_not_shown(EXAMPLE, paper[:at] + paper[at:at + 1] + paper[at:])
            if at:
                self.assert_not_shown(EXAMPLE, (*paper[:at - 1], paper[at], paper[at - 1], *paper[at + 1:]))
        self.assert_not_shown(EXAMPLE, paper + paper)
        self.assert_not_shown(EXAMPLE, paper[::-1])
        self.assert_not_shown(EXAMPLE, paper[MANY:2 * MANY] + paper[:MANY] + paper[2 * MANY:])
        self.assert_not_shown(EXAMPLE, paper[2 * MANY:] + paper[:2 * MANY])
        for at in (0, 15, len(paper) - 1):
            self.assert_not_shown(EXAMPLE, with_row(paper, at, paper[at][:3]))
            self.assert_not_shown(EXAMPLE, with_row(paper, at, (*paper[at], ())))

    def test_cells_of_no_line(self):
        cut = own_paper(EXAMPLE, cells_at((1, 2)))
        self.assert_shown(EXAMPLE, cut)
        first = 2 * MANY

        def recut(*cells):
            """Return the paper with other cells in the rows of the line."""
            rows = list(cut[:first])
            for cell in cells:
                rows += [(row[0], cell, *row[2:]) for row in cut[first:first + MANY]]
            return tuple(rows)

        half, third = (1, 2), (1, 3)
        self.assert_shown(EXAMPLE, recut(WHOLE))
        self.assert_shown(EXAMPLE, recut(("between", (0, 1), half), ("at", half), ("between", half, (1, 1))))
        wrong = [[], [("at", half)], [("between", (0, 1), half)], [("between", half, (1, 1))],
                 [("between", (0, 1), half), ("between", half, (1, 1))],
                 [("between", (0, 1), half), ("at", third), ("between", half, (1, 1))],
                 [("between", (0, 1), half), ("at", half), ("between", third, (1, 1))],
                 [("between", (0, 1), third), ("at", third), ("between", half, (1, 1))],
                 [("between", (0, 1), half), ("at", half), ("between", half, (2, 3))],
                 [("at", (0, 1)), WHOLE], [WHOLE, ("at", (1, 1))], [WHOLE, WHOLE], [None], [None, WHOLE], [WHOLE, None],
                 [("between", third, half), ("at", half), ("between", half, (1, 1))],
                 [("between", (0, 1), half), ("at", half), ("between", half, half), ("at", half), ("between", half, (1, 1))],
                 [("between", (0, 1), half), ("at", half), ("between", half, third), ("at", third), ("between", third, (1, 1))],
                 [("between", (0, 1), (0, 1)), ("at", (0, 1)), WHOLE], [("between", (1, 1), (0, 1))],
                 [("between", (0, 1), (2, 4)), ("at", (2, 4)), ("between", (2, 4), (1, 1))],
                 [("between", (0, 2), (1, 1))], [("between", (0, 1), (2, 2))], [("between", (0, 1), (3, 2))],
                 [("between", (0, 1), (-1, 2)), ("at", (-1, 2)), ("between", (-1, 2), (1, 1))],
                 [("between", (0, True), (1, 1))], [("between", (False, 1), (1, 1))], [("between", (0, 1), (1, True))],
                 [["between", (0, 1), (1, 1)]], [("between", [0, 1], (1, 1))], [("between", (0, 1))], [("within", (0, 1), (1, 1))],
                 [("between", (0, 1), (1, 1), (1, 1))], ["between"], [half], [0], [Awkward()], [("between", Awkward(), (1, 1))],
                 [("between", (0, 1), Awkward())], [("between", (0, 1), ("root", (1, -4, 2), 1))],
                 [("between", (0, 1), ("root", (2, -8, 4), 0)), ("at", ("root", (2, -8, 4), 0)),
                  ("between", ("root", (2, -8, 4), 0), (1, 1))]]
        for cells in wrong:
            self.assert_not_shown(EXAMPLE, recut(*cells))
        # Some rows of a cell with another one.
        self.assert_not_shown(EXAMPLE, with_row(cut, first + 3, changed(cut[first + 3], (1,), WHOLE)))
        self.assert_not_shown(EXAMPLE, with_row(cut, first, changed(cut[first], (1,), WHOLE)))

    def test_a_place_in_the_place_of_none(self):
        for cell in (WHOLE, ("at", (1, 2)), (1, 2), 0, False, ""):
            other = tuple((row[0], cell, *row[2:]) if row[0] == ("bus", "a") else row for row in self.paper)
            self.assert_not_shown(EXAMPLE, other)
            self.assert_not_shown(EXAMPLE, changed(self.paper, (0, 1), cell))

    def test_failings(self):
        for thing in ("d1", ("guard", "d2"), ("guard", "zz"), ("guard",), ("breaker", G), (), False, 0, ["guard", "d1"], Awkward()):
            self.assert_not_shown(EXAMPLE, changed(self.paper, (1, 2), thing))
            self.assert_not_shown(EXAMPLE, changed(self.paper, (0, 2), thing))
        self.assert_not_shown(EXAMPLE, changed(self.paper, (9, 2), ("breaker", ("ab", True))))
        rows = tuple((*row[:2], None, row[3]) for row in self.paper)
        self.assert_not_shown(EXAMPLE, rows)

    def test_how_many_lots(self):
        for row in (0, 13, len(self.paper) - 1):
            lots = self.paper[row][3]
            for other in (lots[:-1], lots + lots[-1:], lots[1:], (), lots[:1], lots * 2):
                self.assert_not_shown(EXAMPLE, changed(self.paper, (row, 3), other))
        self.assert_not_shown(with_rules(EXAMPLE, ticks=9), self.paper)
        self.assert_not_shown(with_rules(EXAMPLE, ticks=11), self.paper)


class Lots(Case):
    @classmethod
    def setUpClass(cls):
        cls.paper = judge(EXAMPLE)[1]

    def test_without_the_beginning(self):
        for row in range(len(self.paper)):
            self.assert_not_shown(EXAMPLE, with_lot(self.paper, row, 0, ()))
            self.assert_not_shown(EXAMPLE, with_lot(self.paper, row, 0, self.paper[row][3][-1]))

    def test_without_a_follower(self):
        for row in range(0, len(self.paper), 3):
            for at in range(1, 11):
                lot = self.paper[row][3][at]
                for left in range(len(lot)):
                    self.assert_not_shown(EXAMPLE, with_lot(self.paper, row, at, lot[:left] + lot[left + 1:]))

    def test_another_order_and_standings_told_twice(self):
        turned = tuple((*row[:3], tuple(lot[::-1] for lot in row[3])) for row in self.paper)
        self.assert_shown(EXAMPLE, turned)
        self.assert_shown(EXAMPLE, tuple((*row[:3], tuple(lot + lot for lot in row[3])) for row in self.paper))

    def test_standings_more_that_are_not_well_formed(self):
        held = (0,) * 7
        wrong = [None, (), START[:2], (*START, ()), [(), held, ()], ((), list(held), ()), ([], held, ()), ((), held, []),
                 ((AB1, AB0), held, ()), ((AB0, AB0), held, ()), ((("zz", 0),), held, ()), ((("g", 1),), held, ()),
                 ((("ab", 2),), held, ()), ((("a", 0),), held, ()), ((("d1", 0),), held, ()), (("ab",), held, ()),
                 ((["ab", 0],), held, ()), ((("ab", False),), held, ()), ((("ab", 0, 0),), held, ()), (AB0, held, ()),
                 ((), held[1:], ()), ((), (*held, 0), ()), ((), (*held[1:], 100), ()), ((), (*held[1:], -1), ()),
                 ((), (*held[1:], True), ()), ((), (*held[1:], False), ()), ((), (*held[1:], None), ()), ((), (*held[1:], 1.0), ()),
                 ((), (*held[1:], 10 ** 5000), ()), ((), held, ((AB0, 100),)), ((), held, ((AB0, -1),)), ((), held, ((AB0, True),)),
                 ((), held, ((AB0, None),)), ((), held, ((AB0,),)), ((), held, (AB0,)), ((), held, ((AB0, 0, 0),)),
                 ((), held, ((AB1, 0), (AB0, 0))), ((), held, ((AB0, 0), (AB0, 1))), ((), held, ([AB0, 0],)),
                 ((), held, ((("zz", 0), 0),)), ((), held, ((["ab", 0], 0),)), ((), held, ((("ab", False), 0),)),
                 ((AB0,), held, ((AB0, 0),)), ((AB0, AB1), held, ((AB1, 3),)), ((), held, {}), ({}, held, ()), ("", held, ()),
                 ((), held, ""), ((Awkward(),), held, ()), ((), (*held[1:], Awkward()), ()), ((), held, (Awkward(),)), Awkward()]
        for standing in wrong:
            for row, at in ((0, 0), (12, 4), (len(self.paper) - 1, 10)):
                lot = self.paper[row][3][at]
                self.assert_not_shown(EXAMPLE, with_lot(self.paper, row, at, (*lot, standing)), "formed")
                self.assert_not_shown(EXAMPLE, with_lot(self.paper, row, at, (standing, *lot)), "formed")

    def test_standings_more_that_are_well_formed(self):
        held = (0,) * 7
        # No run comes to them, but what follows is told, and ends well: held and ages may be any up to 99.
        for row in (0, 12, len(self.paper) - MANY):
            for standing in (((), held, ()), ((), (99,) * 7, ()), ((), (3, 1, 4, 1, 5, 9, 2), ()), ((), held, ((AB0, 99),)),
                             ((), held, ((AB1, 7),)), ((AB1,), held, ())):
                for at in (0, 1, 2):
                    lots = closed(EXAMPLE, self.paper[row], at, standing)
                    right = all(apart.Fault(EXAMPLE, self.paper[row][0], (1, 2)).is_right(one, self.paper[row][2]) for one in lots[-1])
                    other = changed(self.paper, (row, 3), lots)
                    if right:
                        self.assert_shown(EXAMPLE, other)
                    else:
                        self.assert_not_shown(EXAMPLE, other, "right end")
        # Without what follows it is not.
        for standing in (((), held, ((AB0, 99),)), ((), (99,) * 7, ())):
            lot = self.paper[0][3][1]
            self.assert_not_shown(EXAMPLE, with_lot(self.paper, 0, 1, (*lot, standing)), "follower")

    def test_standings_more_of_a_failing_breaker(self):
        row = next(at for at, row in enumerate(self.paper) if row[2] == ("breaker", AB0) and row[0] == ("line", "ab"))
        for age in (0, 1, 2, 3, 99):
            for opened in ((), (AB1,)):
                lots = closed(EXAMPLE, self.paper[row], 0, (opened, (0,) * 7, ((AB0, age),)))
                self.assert_shown(EXAMPLE, changed(self.paper, (row, 3), lots))

    def test_a_last_lot_with_one_that_is_no_right_end(self):
        for row in range(len(self.paper)):
            last = self.paper[row][3][-1]
            for standing in (START, ((AB0,), (0,) * 7, ((AB1, 0),)), ((AB0, AB1, G), (0,) * 7, ((G, 0),))[:2] + ((),)):
                here = apart.Fault(EXAMPLE, self.paper[row][0], (1, 2))
                if not here.is_right(standing, self.paper[row][2]):
                    self.assert_not_shown(EXAMPLE, with_lot(self.paper, row, 10, (*last, standing)), "right end")

    def test_the_lots_of_the_cell_beside(self):
        # What was shown of a cell is not shown of the next one, where q sees something else.
        guards = [*EXAMPLE[3], ("q", ("over", AB0, (1, 10), True), 20, (G,))]
        net = with_guards(EXAMPLE, guards)
        paper = judge(net)[1]
        many = len(apart.failings_of(net))
        unlike = 0
        for at, row in enumerate(paper[many:]):
            if row[0] == paper[at][0] and row[2] != ("guard", "q"):
                lots = paper[at][3]
                other = changed(paper, (many + at, 3), lots)
                here = apart.Fault(net, row[0], sample(row[1]) if row[1] else None)
                if all(here.followers(one, row[2]) <= set(then) for lot, then in zip(lots, lots[1:]) for one in lot):
                    self.assert_shown(net, other)
                else:
                    unlike += 1
                    self.assert_not_shown(net, other, "follower")
        self.assertGreaterEqual(unlike, 10)

    def test_an_empty_lot(self):
        for row in (0, 20):
            for at in range(11):
                self.assert_not_shown(EXAMPLE, with_lot(self.paper, row, at, ()))

    def test_a_paper_of_another_net(self):
        for other in (with_guards(EXAMPLE, EXAMPLE[3][::-1]), with_guards(EXAMPLE, EXAMPLE[3][1:]), with_rules(EXAMPLE, most=3),
                      changed(EXAMPLE, (3, 2, 2), 3), changed(EXAMPLE, (3, 3, 3), (AB0,)), changed(EXAMPLE, (3, 3, 0), "zz"),
                      changed(EXAMPLE, (0,), ("a", "b", "c")), VILLAGE):
            self.assert_not_shown(other, self.paper)
        # What no run depends on may differ.
        self.assert_shown(changed(EXAMPLE, (2, 0, 2), 4), self.paper)
        self.assert_shown(changed(EXAMPLE, (3, 0, 0), "d3"), tuple(
            (*row[:2], ("guard", "d3") if row[2] == ("guard", "d1") else row[2], row[3]) for row in self.paper))


class Still(Case):
    def assert_cut(self, net, fault, place):
        """Assert that a paper on cells that meet at a place is shown, and on one that goes across it is not."""
        paper = judge(net)[1]
        cells = [row[1] for row in paper if row[0] == fault and row[2] is None]
        self.assertIn(("at", place), cells)
        self.assert_shown(net, paper)
        at = cells.index(("at", place))
        across = ("between", cells[at - 1][1], cells[at + 1][2])
        merged = []
        for row in paper:
            if row[0] == fault and row[1] == cells[at]:
                merged.append((fault, across, row[2], lots_at(net, fault, across, row[2])))
            elif row[0] != fault or row[1] not in cells[at - 1:at + 2]:
                merged.append(row)
        self.assert_not_shown(net, tuple(merged), "still")

    def with_guard(self, told):
        """Return the example's net with one guard more that is too slow to do anything."""
        return with_guards(EXAMPLE, [*EXAMPLE[3], ("q", told, 20, (G,))])

    def test_each_polynomial_of_each_kind(self):
        # With a fault at x the current into ab.0 is 1 / (3 + 10 x), V / I there is 10 x; the error is 1/10.
        fault = ("line", "ab")
        for is_forward in (False, True):
            for breaker in (AB0, G):
                self.assert_cut(self.with_guard(("over", breaker, (1, 10), is_forward)), fault, (67, 110))
                self.assert_cut(self.with_guard(("over", breaker, (1, 10), is_forward)), fault, (73, 90))
        self.assert_cut(self.with_guard(("reach", AB0, (5, 1))), fault, (9, 20))
        self.assert_cut(self.with_guard(("reach", AB0, (5, 1))), fault, (11, 20))
        self.assert_cut(self.with_guard(("difference", "ab", (1, 10))), fault, (67, 110))
        self.assert_cut(self.with_guard(("difference", "ab", (1, 10))), fault, (73, 90))

    def beside(self, *told):
        """Return a net with two equal lines beside each other, and a slow guard of each kind told more."""
        opens = {"x": (("x", 0), ("x", 1)), "y": (("y", 0), ("y", 1)), "a": (("g", 0), ("x", 0), ("y", 0)),
                 "b": (("h", 0), ("x", 1), ("y", 1))}
        guards = [(f"{part}{at}", ("difference", part, (1, 1000)), 0, what) for part, what in opens.items() for at in (1, 2)]
        for line, bus in (("x", "a"), ("y", "a"), ("x", "b"), ("y", "b")):
            end = "ab".index(bus)
            rest = {*opens[bus], (line, 1 - end)} - {(line, end)}
            guards.append((f"f{line}{end}", ("behind", (line, end)), 2, tuple(sorted(rest))))
        guards += [(f"q{at}", look, 20, (("g", 0),)) for at, look in enumerate(told)]
        return (("a", "b"), (("x", "a", "b", 8), ("y", "a", "b", 8)), (("g", "a", 1), ("h", "b", 1)), tuple(guards), ((0, 1), 1, 1, 12))

    def test_where_a_current_turns(self):
        # In y it turns in the middle of x: for behind, which is part of the net itself, and reach I is 0 there.
        self.assert_cut(self.beside(), ("line", "x"), (1, 2))
        net = self.beside()
        others = with_guards(net, [guard for guard in net[3] if guard[1] not in (("behind", ("y", 0)), ("behind", ("y", 1)))])
        self.assertEqual(judge(others)[0], "astray")

    def places_of(self, net, fault):
        """Return the places between the cells of a line in the paper of a net."""
        return [row[1][1] for row in judge(net)[1] if row[0] == fault and row[1][0] == "at" and row[2] is None]

    def test_over_in_both_directions(self):
        # For faults of x the current into y.0 is 1/20 at some place, and -1/20 at the mirrored one.
        fault = ("line", "x")
        net = self.beside(("over", ("y", 0), (1, 20), False))
        forward = self.beside(("over", ("y", 0), (1, 20), True))
        met = {}
        for one in (net, forward):
            for place in self.places_of(one, fault):
                flow = apart.currents(one, (), fault, apart.number_of(place))[1][("y", 0)]
                for bound in (Fraction(1, 20), Fraction(-1, 20)):
                    if not apart.sign(flow - bound):
                        met.setdefault((one is net, bound > 0), []).append(place)
        self.assertEqual(sorted(met), [(False, True), (True, False), (True, True)])
        self.assert_cut(net, fault, met[True, True][0])
        self.assert_cut(net, fault, met[True, False][0])
        self.assert_cut(forward, fault, met[False, True][0])

    def test_where_a_polynomial_touches_0(self):
        # Into a fault of x the whole current is least in the middle, where it just meets the bound.
        whole = apart.currents(self.beside(), (), ("line", "x"), Fraction(1, 2))[2]
        net = self.beside(("difference", "x", (whole.numerator, whole.denominator)))
        self.assert_cut(net, ("line", "x"), (1, 2))

    def test_a_failing_guard(self):
        # The row in which q fails has the same lots on all cells, and still what q would see counts there.
        net = self.with_guard(("over", AB0, (1, 10), True))
        paper = judge(net)[1]
        rows = [row for row in paper if row[0] == ("line", "ab") and row[2] == ("guard", "q")]
        self.assertGreater(len(rows), 3)
        self.assertEqual({row[3] for row in rows}, {rows[0][3]})

    def test_topologies_of_standings_more(self):
        # With both sources at b what q sees is the same all along ab, with one of them it is not.
        net = (("a", "b"), (("ab", "a", "b", 10),), (("g", "a", 3), ("h", "b", 3), ("k", "b", 6)), (), ((1, 10), 1, 1, 12))
        opens = {"ab": (AB0, AB1), "a": (AB0, G), "b": (AB1, ("h", 0), ("k", 0))}
        guards = [(f"{part}{at}", ("difference", part, (1, 1000)), 0, what) for part, what in opens.items() for at in (1, 2)]
        guards += [("f0", ("behind", AB0), 2, (AB1, G)), ("f1", ("behind", AB1), 2, (AB0, ("h", 0), ("k", 0)))]
        net = with_guards(net, [*guards, ("q", ("over", AB1, (3, 40), True), 20, (AB1,))])
        paper = judge(net)[1]
        self.assert_shown(net, paper)
        for at, row in enumerate(paper):
            if row[0] == ("line", "ab"):
                self.assertEqual(row[1], WHOLE)
                for opened, breaker, why in (((("k", 0),), AB1, "still"), ((("h", 0),), AB1, "still"), ((G,), AB0, "")):
                    if row[2] == ("breaker", breaker):
                        lots = closed(net, row, 0, (opened, (0,) * len(net[3]), ()))
                        self.assertTrue(all(apart.Fault(net, row[0], (1, 2)).is_right(one, row[2]) for one in lots[-1]))
                        other = changed(paper, (at, 3), lots)
                        if why:
                            self.assert_not_shown(net, other, why)
                        else:
                            self.assert_shown(net, other)


class Drawn(Case):
    def test_each_yes_is_shown_and_changed_ones_are_not(self):
        draw = random.Random(54)
        shown = 0
        for _ in range(100):
            net = draw.choice((kept_net, spoiled_net, wild_net))(draw)
            word, *more = judge(net)
            if word == "selective":
                paper = more[0]
                self.assert_shown(net, paper)
                shown += 1
                for _ in range(2):
                    row = draw.randrange(len(paper))
                    at = draw.randrange(net[4][3] + 1)
                    lot = paper[row][3][at]
                    left = draw.randrange(len(lot))
                    self.assert_not_shown(net, with_lot(paper, row, at, lot[:left] + lot[left + 1:]))
                    self.assert_not_shown(net, paper[:row] + paper[row + 1:])
        self.assertGreater(shown, 30)

    def test_no_paper_shows_a_net_that_is_not_selective(self):
        # All lots told on cells as fine as one likes: some end is wrong, or some cell is not still.
        draw = random.Random(55)
        for _ in range(40):
            net = draw.choice((wild_net, spoiled_net))(draw)
            if judge(net)[0] == "astray" and len(net[3]) < 9:
                cells = cells_at(*sorted({pair(draw.randint(1, 9), 10) for _ in range(2)}, key=lambda place: place[0] / place[1]))
                self.assert_not_shown(net, own_paper(net, cells))

    def test_a_net_that_is_astray_at_one_place_only(self):
        net = turning_net()
        paper = judge(turning_net("4/9", "2/9", "9/25"))[1]
        self.assert_not_shown(net, paper)


if __name__ == "__main__":
    unittest.main()
