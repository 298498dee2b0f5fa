"""[28] Papers of rooms, and runs and verdicts of nets with rooms."""

import random
import unittest

import apart
from apartrooms import RoomFault, beginning_of, cases_of, is_room_run
from drawn import hazy_net, kept_net, pair, spoiled_net, wild_net
from drawnrooms import guards_room, standing_of, wild_room
from justthepart.errors import BadPaper, GuardError
from justthepart.places import sample
from justthepart.roompapers import check_room_paper, is_room_shown, room_goes_astray, room_verdict_holds
from justthepart.rooms import as_room
from justthepart.roomsearching import judge_room
from justthepart.roomtexts import read_room
from justthepart.searching import judge
from roomsamples import AGAIN, NOTHING, PAIR, RELAYED, SLOW
from samples import (EXAMPLE, VILLAGE, Awkward, at_path, changed, faults_of, paths_of, strange_things, turning_net, with_guards,
                     with_rules)

AB0, AB1, G = ("ab", 0), ("ab", 1), ("g", 0)
WHOLE = ("between", (0, 1), (1, 1))

# A net and room whose standings have all that standings may have, in small.
SMALL = with_rules(with_guards(VILLAGE, [(name, told, 0, opens) for name, told, _, opens in VILLAGE[3]]), ticks=14)
ROOM = read_room(SMALL, "channel c 1 2\nlet t or e1 e2\nlet l timer t 0 1\nsend c l\nlet far got c\norder g t\norder h l\norder h far\n"
                        "let off open g\nlet w timer off 3 0\nlet on not off\nlet never and on off\nlet was latch w never\nlet k and t was\n"
                        "let lock latch k never\nlet may not lock\nlet back and w may\nshut g back\nshut h back\ngone 2")


def lots_at(net, room, fault, cell, case):
    """Return the lots of a row, worked out apart."""
    here = RoomFault(net, room, fault, None if cell is None else sample(cell), case)
    return tuple(tuple(sorted(lot)) for lot in here.lots())


def own_paper(net, room, cells):
    """Return a paper worked out apart, on these cells of all lines."""
    rows = []
    for fault in faults_of(net):
        for cell in cells if fault[0] == "line" else [None]:
            rows += [(fault, cell, case, lots_at(net, room, fault, cell, case)) for case in cases_of(net, room)]
    return tuple(rows)


def with_lot(paper, row, at, lot):
    """Return a paper with another lot."""
    return changed(paper, (row, 3, at), lot)


def closed(net, room, row, at, standing):
    """Return the lots of a row with a standing more behind a tick, and all that may follow it, and whether it ends well."""
    fault, cell, case, lots = row
    here = RoomFault(net, room, fault, None if cell is None else sample(cell), case)
    out = [list(lot) for lot in lots]
    more = {standing}
    for tick in range(at, len(lots)):
        out[tick] += sorted(more - set(out[tick]))
        last = more
        more = set().union(*(here.followers(one) for one in more))
    return tuple(tuple(lot) for lot in out), all(here.is_right(one) for one in last)


class Case(unittest.TestCase):
    def assert_shown(self, net, room, paper):
        self.assertIsNone(check_room_paper(net, room, paper))
        self.assertIs(is_room_shown(net, room, paper), True)
        self.assertIs(room_verdict_holds(net, room, ("selective", paper)), True)

    def assert_not_shown(self, net, room, paper, why=""):
        self.assertIs(is_room_shown(net, room, paper), False)
        with self.assertRaises(BadPaper) as caught:
            check_room_paper(net, room, paper)
        self.assertIsInstance(caught.exception, GuardError)
        self.assertIn(why, caught.exception.why)


class Forms(Case):
    @classmethod
    def setUpClass(cls):
        cls.paper = judge_room(SMALL, ROOM)[1]
        cls.many = len(cases_of(SMALL, ROOM))
        cls.relayed = judge_room(PAIR, RELAYED)[1]

    def test_papers_of_judge_room(self):
        self.assert_shown(SMALL, ROOM, self.paper)
        for net, room in ((EXAMPLE, as_room(EXAMPLE)), (PAIR, RELAYED), (SLOW, AGAIN), (VILLAGE, as_room(VILLAGE))):
            self.assert_shown(net, room, judge_room(net, room)[1])

    def test_papers_of_others(self):
        half = (1, 2)
        for cells in ([WHOLE], [("between", (0, 1), half), ("at", half), ("between", half, (1, 1))]):
            self.assert_shown(EXAMPLE, as_room(EXAMPLE), own_paper(EXAMPLE, as_room(EXAMPLE), cells))
        self.assert_shown(SMALL, ROOM, own_paper(SMALL, ROOM, []))

    def test_anything(self):
        for thing in strange_things() + [[], list(self.paper), self.paper[0], {self.paper: 1}]:
            self.assert_not_shown(SMALL, ROOM, thing)
        for thing in strange_things():
            self.assert_not_shown(SMALL, ROOM, (thing,) * len(self.paper))
            self.assert_not_shown(SMALL, ROOM, (*self.paper[:-1], thing))
            self.assert_not_shown(SMALL, ROOM, (*self.paper, thing))

    def test_anything_anywhere(self):
        draw = random.Random(111)
        things = [None, True, False, 1.0, 10 ** 5000, -1, 100, "", "a", b"a", (), [], {}, Awkward(), (Awkward(),), ((),)]
        paths = paths_of(self.paper)
        for path in draw.sample(paths, 200):
            for thing in draw.sample(things, 4):
                # Nothing failing, a bus's cell, and nothing open or ordered, are told by such things, and a case by a bool.
                part = at_path(self.paper, path)
                if not (isinstance(part, (tuple, type(None))) and (thing is None or thing is things[10]) or thing is part):
                    self.assert_not_shown(SMALL, ROOM, changed(self.paper, path, thing))

    def test_a_list_in_the_place_of_a_tuple(self):
        draw = random.Random(112)
        for net, room, paper in ((SMALL, ROOM, self.paper), (PAIR, RELAYED, self.relayed)):
            paths = [path for path in paths_of(paper) if isinstance(at_path(paper, path), tuple)]
            for path in draw.sample(paths, 100):
                self.assert_not_shown(net, room, changed(paper, path, list(at_path(paper, path))))

    def test_bools_and_integers_in_the_place_of_each_other(self):
        draw = random.Random(113)
        for net, room, paper in ((SMALL, ROOM, self.paper), (PAIR, RELAYED, self.relayed)):
            paths = [path for path in paths_of(paper) if at_path(paper, path) in (0, 1)]
            for path in draw.sample(paths, 120):
                part = at_path(paper, path)
                self.assert_not_shown(net, room, changed(paper, path, int(part) if type(part) is bool else bool(part)))
        for at in range(self.many):
            self.assert_not_shown(SMALL, ROOM, changed(self.paper, (at, 2, 1), int(self.paper[at][2][1])))
            self.assert_not_shown(SMALL, ROOM, changed(self.paper, (at, 2, 1), not self.paper[at][2][1]))

    def test_rows_that_lack_are_doubled_or_stand_elsewhere(self):
        for net, room, paper in ((SMALL, ROOM, self.paper), (PAIR, RELAYED, self.relayed)):
            many = len(cases_of(net, room))
            for at in range(0, len(paper), 3):
                self.assert_not_shown(net, room, paper[:at] + paper[at + 1:])
                self.assert_not_shown(net, room, paper[:at] + paper[at:at + 1] + paper[at:])
                if at:
                    self.assert_not_shown(net, room, (*paper[:at - 1], paper[at], paper[at - 1], *paper[at + 1:]))
            self.assert_not_shown(net, room, paper + paper)
            self.assert_not_shown(net, room, paper[::-1])
            self.assert_not_shown(net, room, paper[many:])
            self.assert_not_shown(net, room, paper[:-many])

    def test_cells_of_no_line(self):
        paper = own_paper(PAIR, RELAYED, [WHOLE])
        first = 2 * len(cases_of(PAIR, RELAYED))
        half = (1, 2)

        def recut(*cells):
            """Return the paper with other cells in the rows of the line."""
            rows = list(paper[:first])
            for cell in cells:
                rows += [(row[0], cell, *row[2:]) for row in paper[first:]]
            return tuple(rows)

        self.assert_shown(PAIR, RELAYED, recut(WHOLE))
        self.assert_shown(PAIR, RELAYED, recut(("between", (0, 1), half), ("at", half), ("between", half, (1, 1))))
        for cells in ([], [("at", half)], [("between", (0, 1), half)], [("between", half, (1, 1))], [None], [WHOLE, WHOLE],
                      [("between", (0, 1), half), ("between", half, (1, 1))],
                      [("between", (0, 1), half), ("at", (1, 3)), ("between", half, (1, 1))],
                      [("between", (0, 1), (2, 4)), ("at", (2, 4)), ("between", (2, 4), (1, 1))]):
            self.assert_not_shown(PAIR, RELAYED, recut(*cells))
        self.assert_not_shown(SMALL, ROOM, changed(self.paper, (0, 1), WHOLE))

    def test_failings_in_the_place_of_cases(self):
        # A paper of the guards alone, and one whose cases are not told as pairs.
        self.assert_not_shown(EXAMPLE, as_room(EXAMPLE), judge(EXAMPLE)[1])
        self.assert_not_shown(SMALL, ROOM, tuple((*row[:2], row[2][0], row[3]) for row in self.paper))
        for case in (None, (None,), (None, False, False), [None, False], (("guard", "zz"), False), (("channel", "zz"), False), ("c", False),
                     (("breaker", G), False), (None, None), (None, 0), Awkward()):
            self.assert_not_shown(SMALL, ROOM, changed(self.paper, (0, 2), case))

    def test_how_many_lots(self):
        for row in (0, len(self.paper) - 1):
            lots = self.paper[row][3]
            for other in (lots[:-1], lots + lots[-1:], lots[1:], (), lots[:1], lots * 2):
                self.assert_not_shown(SMALL, ROOM, changed(self.paper, (row, 3), other))
        self.assert_not_shown(with_rules(SMALL, ticks=13), ROOM, self.paper)
        self.assert_not_shown(with_rules(SMALL, ticks=15), ROOM, self.paper)


class Lots(Case):
    @classmethod
    def setUpClass(cls):
        cls.paper = judge_room(SMALL, ROOM)[1]

    def test_without_the_beginning(self):
        for row in range(len(self.paper)):
            self.assert_not_shown(SMALL, ROOM, with_lot(self.paper, row, 0, ()), "beginning")
            self.assert_not_shown(SMALL, ROOM, with_lot(self.paper, row, 0, self.paper[row][3][-1]))

    def test_without_a_follower(self):
        for row in range(len(self.paper)):
            for at in range(1, 15):
                lot = self.paper[row][3][at]
                for left in range(len(lot)):
                    self.assert_not_shown(SMALL, ROOM, with_lot(self.paper, row, at, lot[:left] + lot[left + 1:]))

    def test_another_order_and_standings_told_twice(self):
        self.assert_shown(SMALL, ROOM, tuple((*row[:3], tuple(lot[::-1] for lot in row[3])) for row in self.paper))
        self.assert_shown(SMALL, ROOM, tuple((*row[:3], tuple(lot + lot for lot in row[3])) for row in self.paper))

    def test_standings_more_that_are_not_well_formed(self):
        start = beginning_of(ROOM)
        opened, cells, pasts, ages, still = start
        lets = [what[0] for _, what in ROOM[1]]
        self.assertEqual([lets.index(kind) for kind in ("timer", "latch", "got")], [1, 7, 2])
        wrong = [None, (), start[:4], (*start, 0), list(start), ((), (0,) * len(SMALL[3]), ())]
        wrong += [(opened, cells[1:], pasts, ages, still), (opened, (*cells, 0), pasts, ages, still), (opened, list(cells), pasts, ages, still),
                  (opened, (), pasts, ages, still), (opened, None, pasts, ages, still)]
        for at, bad in ((0, 1), (0, (0, 0)), (0, None), (0, False), (0, -1), (0, "0"), (1, 0), (1, (0,)), (1, (0, 0, 0)), (1, [0, 0]), (1, (0, None)),
                        (1, (True, 0)), (1, (0, False)), (1, (-1, 0)), (1, (0, -1)), (1, ("0", 0)), (1, None), (7, (0, 0)), (7, 2), (7, -1), (7, True),
                        (7, False), (7, None), (2, 1), (2, True), (2, Awkward()), (7, Awkward()), (1, Awkward()), (1, (Awkward(), 0))):
            wrong.append((opened, (*cells[:at], bad, *cells[at + 1:]), pasts, ages, still))
        for bad in ((), ((0,),), ((0, 0, 0),), ((0, 0), (0, 0)), (0, 0), ((0, 2),), ((0, -1),), ((0, False),), ((True, 0),), ([0, 0],), [(0, 0)], None,
                    ((0, None),), ((0, "0"),), (Awkward(),), ((Awkward(), 0),)):
            wrong.append((opened, cells, bad, ages, still))
        for bad in ((("zz", 0),), ((("g", 1)),), (("h", 0), G), (G, G), [G], None, ("g",), (("g", False),), (["g", 0],), ((Awkward(), 0),)):
            wrong.append((bad, cells, pasts, ages, still))
        for bad in (((G, 100),), ((G, -1),), ((G, True),), ((G,),), (G,), ((("h", 0), 0), (G, 0)), ((G, 0), (G, 1)), [(G, 0)], None, ((("zz", 0), 0),)):
            wrong.append((opened, cells, pasts, bad, still))
        wrong.append(((G,), cells, pasts, ((G, 0),), still))
        for bad in (None, True, False, -1, 100, "0", (0,), 10 ** 5000, Awkward()):
            wrong.append((opened, cells, pasts, ages, bad))
        for standing in wrong:
            for row, at in ((0, 0), (3, 4), (len(self.paper) - 1, 14)):
                lot = self.paper[row][3][at]
                self.assert_not_shown(SMALL, ROOM, with_lot(self.paper, row, at, (*lot, standing)), "formed")
                self.assert_not_shown(SMALL, ROOM, with_lot(self.paper, row, at, (standing, *lot)), "formed")

    def test_standings_more_that_are_well_formed(self):
        # Runs may come to such numbers; all that follows them is told, and ends well or not.
        draw = random.Random(114)
        ends = []
        for _ in range(150):
            row = draw.randrange(len(self.paper))
            standing = standing_of(draw, SMALL, ROOM)
            if self.paper[row][2][1]:
                standing = (*standing[:4], draw.randint(0, 2))
            lots, is_well = closed(SMALL, ROOM, self.paper[row], draw.randint(0, 14), standing)
            other = changed(self.paper, (row, 3), lots)
            if is_well:
                self.assert_shown(SMALL, ROOM, other)
            else:
                self.assert_not_shown(SMALL, ROOM, other, "right end")
            ends.append(is_well)
        self.assertTrue(min(ends.count(True), ends.count(False)) > 20)

    def test_a_last_lot_with_one_that_is_no_right_end(self):
        start = beginning_of(ROOM)
        for row in range(len(self.paper)):
            last = self.paper[row][3][-1]
            for standing in (start, (*start[:3], ((G, 0),), 2), ((("h", 0),), *start[1:])):
                here = RoomFault(SMALL, ROOM, *self.paper[row][:1], None, self.paper[row][2])
                self.assertFalse(here.is_right(standing))
                self.assert_not_shown(SMALL, ROOM, with_lot(self.paper, row, 14, (*last, standing)), "right end")

    def test_papers_of_another_net_and_of_another_room(self):
        for net in (with_rules(SMALL, most=2), with_guards(SMALL, SMALL[3][::-1]), with_guards(SMALL, SMALL[3][:1]), changed(SMALL, (3, 0, 1, 2), (9, 1))):
            self.assert_not_shown(net, ROOM if net[3][-1][0] == "e2" else as_room(net), self.paper)
        for room in (as_room(SMALL), NOTHING, (*ROOM[:4], (), ROOM[5]), (*ROOM[:5], 3), (*ROOM[:5], 0), ((("c", 1, 1),), *ROOM[1:]),
                     ((("c", 1, 3),), *ROOM[1:]), (*ROOM[:3], ROOM[3][:1], *ROOM[4:]), (ROOM[0], ROOM[1], (), *ROOM[3:])):
            self.assert_not_shown(SMALL, room, self.paper)
        # With a channel that may choose among less, the lots have all runs, and more.
        self.assert_shown(SMALL, ((("c", 2, 2),), *ROOM[1:]), self.paper)
        # What nothing hangs on may differ, and what lets are called.
        self.assert_shown(changed(SMALL, (2, 0, 2), 3), ROOM, self.paper)
        self.assert_shown(changed(SMALL, (3, 0, 2), 7), ROOM, self.paper)
        renamed = (*ROOM[:1], swapped(ROOM[1]), *ROOM[2:3], swapped(ROOM[3]), *ROOM[4:])
        self.assertNotEqual(renamed, ROOM)
        self.assert_shown(SMALL, renamed, self.paper)


def swapped(part):
    """Return a name, or parts of a room, with t9 for t."""
    if isinstance(part, tuple):
        return tuple(swapped(one) for one in part)
    return "t9" if part == "t" else part


class Still(Case):
    def with_eye(self, told):
        """Return the example's net with one eye more, which nothing hangs on, and guards as a room without it."""
        net = with_guards(EXAMPLE, [*EXAMPLE[3], ("q", told, 20, (G,))])
        return net, as_room(EXAMPLE)

    def assert_cut(self, net, room, fault, place):
        """Assert that a paper on cells that meet at a place is shown, and on one that goes across it is not."""
        paper = judge_room(net, room)[1]
        cells = [row[1] for row in paper if row[0] == fault and row[2] == (None, False)]
        self.assertIn(("at", place), cells)
        self.assert_shown(net, room, paper)
        at = cells.index(("at", place))
        across = ("between", cells[at - 1][1], cells[at + 1][2])
        merged = []
        for row in paper:
            if row[0] == fault and row[1] == cells[at]:
                merged.append((fault, across, row[2], lots_at(net, room, fault, across, row[2])))
            elif row[0] != fault or row[1] not in cells[at - 1:at + 2]:
                merged.append(row)
        self.assert_not_shown(net, room, tuple(merged), "still")

    def test_each_kind(self):
        # With a fault at x the current into ab.0 is 1 / (3 + 10 x), V / I there is 10 x; the error is 1/10.
        fault = ("line", "ab")
        self.assert_cut(*self.with_eye(("over", AB0, (1, 10), False)), fault, (67, 110))
        self.assert_cut(*self.with_eye(("over", G, (1, 10), True)), fault, (73, 90))
        self.assert_cut(*self.with_eye(("reach", AB0, (5, 1))), fault, (9, 20))
        self.assert_cut(*self.with_eye(("difference", "ab", (1, 10))), fault, (73, 90))

    def beside(self):
        """Return a net in which q does not see the same all along ab once one of two sources at b is open."""
        net = (("a", "b"), (("ab", "a", "b", 10),), (("g", "a", 3), ("h", "b", 3), ("k", "b", 6)), (), ((1, 10), 1, 1, 12))
        opens = {"ab": (AB0, AB1), "a": (AB0, G), "b": (AB1, ("h", 0), ("k", 0))}
        guards = [(f"{part}{at}", ("difference", part, (1, 1000)), 0, what) for part, what in opens.items() for at in (1, 2)]
        guards += [("f0", ("behind", AB0), 2, (AB1, G)), ("f1", ("behind", AB1), 2, (AB0, ("h", 0), ("k", 0)))]
        return with_guards(net, [*guards, ("q", ("over", AB1, (3, 40), True), 20, (AB1,))])

    def test_topologies_of_standings_more(self):
        net = self.beside()
        room = as_room(net)
        paper = judge_room(net, room)[1]
        self.assert_shown(net, room, paper)
        start = beginning_of(room)
        for at, row in enumerate(paper):
            if row[0] == ("line", "ab"):
                self.assertEqual(row[1], WHOLE)
                for opened, breaker, why in (((("k", 0),), AB1, "still"), ((("h", 0),), AB1, "still"), ((G,), AB0, "")):
                    if row[2] == (("breaker", breaker), False):
                        lots, is_well = closed(net, room, row, 0, (opened, *start[1:]))
                        self.assertTrue(is_well)
                        if why:
                            self.assert_not_shown(net, room, changed(paper, (at, 3), lots), why)
                        else:
                            self.assert_shown(net, room, changed(paper, (at, 3), lots))

    def test_topologies_behind_the_last_lot(self):
        # A standing of the last lot from which k opens: behind it q does not see the same all along ab.
        net = self.beside()
        room = as_room(net)
        paper = judge_room(net, room)[1]
        start = beginning_of(room)
        for at, row in enumerate(paper):
            if row[0] == ("line", "ab"):
                for opened in ((), (AB0, AB1)):
                    lots, is_well = closed(net, room, row, 12, (opened, *start[1:3], ((("k", 0), 0),), 0))
                    self.assertFalse(is_well)
                    self.assert_not_shown(net, room, changed(paper, (at, 3), lots), "right end")

    def test_a_net_that_is_astray_at_one_place_only(self):
        net = turning_net()
        other = turning_net("445/1000")
        paper = judge_room(other, as_room(other))[1]
        self.assert_shown(other, as_room(other), paper)
        self.assert_not_shown(net, as_room(net), paper)


class Runs(Case):
    @classmethod
    def setUpClass(cls):
        bare = (*ROOM[:4], (), ROOM[5])
        cls.nos = [(SMALL, bare, judge_room(SMALL, bare)), (EXAMPLE, NOTHING, judge_room(EXAMPLE, NOTHING))]
        slow = with_rules(PAIR, ticks=5)
        cls.nos.append((slow, RELAYED, judge_room(slow, RELAYED)))

    def assert_astray(self, net, room, thing, wanted):
        self.assertIs(room_goes_astray(net, room, thing), wanted)
        self.assertIs(room_verdict_holds(net, room, thing), wanted)

    def is_no(self, net, room, fault, place, case, run):
        """Return whether a run is one that ends wrong, worked out apart."""
        return is_room_run(net, room, fault, place, case, run) and not RoomFault(net, room, fault, place, case).is_right(run[-1])

    def test_the_nos_of_this_test(self):
        for net, room, no in self.nos:
            self.assertEqual(no[0], "astray")
            self.assertTrue(self.is_no(net, room, *no[1:]))
            self.assert_astray(net, room, no, True)
        self.assertIs(self.nos[0][2][3][1], True)
        self.assert_astray(SMALL, ROOM, ("astray", self.nos[0][2]), False)
        self.assert_astray(EXAMPLE, as_room(EXAMPLE), judge(with_guards(EXAMPLE, [])), False)

    def test_anything(self):
        for net, room, no in self.nos:
            for thing in strange_things():
                self.assert_astray(net, room, thing, False)
                self.assert_astray(net, room, ("selective", thing), False)
                self.assert_astray(net, room, (thing, thing), False)
                for at in range(5):
                    if not (at == 2 and thing is None):
                        self.assert_astray(net, room, changed(no, (at,), thing), False)
            self.assert_astray(net, room, no[:4], False)
            self.assert_astray(net, room, (*no, ()), False)
            self.assert_astray(net, room, list(no), False)
            for word in ("selective", "Astray", "", b"astray", ("astray",)):
                self.assert_astray(net, room, (word, *no[1:]), False)

    def test_anything_anywhere(self):
        draw = random.Random(115)
        things = [10 ** 5000, 77, True, False, 1.0, -1, "zz", b"a", [], {}, Awkward(), (Awkward(),)]
        for net, room, no in self.nos:
            for path in draw.sample(paths_of(no), min(150, len(paths_of(no)))):
                part = at_path(no, path)
                for thing in things:
                    # Another case, or place, may go wrong as well.
                    if not (type(thing) is type(part) and part in (False, True) or path[:1] == (2,)):
                        self.assert_astray(net, room, changed(no, path, thing), False)
                if isinstance(part, tuple):
                    self.assert_astray(net, room, changed(no, path, list(part)), False)
                    self.assert_astray(net, room, changed(no, path, (*part, 0)), False)
                if type(part) is int and part in (0, 1):
                    self.assert_astray(net, room, changed(no, path, bool(part)), False)

    def test_other_faults_places_and_cases(self):
        for net, room, no in self.nos:
            for case in cases_of(net, room):
                self.assert_astray(net, room, changed(no, (3,), case), self.is_no(net, room, *no[1:3], case, no[4]))
            for case in (no[3][0], [*no[3]], (no[3][0], int(no[3][1])), (*no[3], 0), (("guard", "zz"), False), None, ()):
                if case not in cases_of(net, room) or type(case) is list or type(case[1]) is int:
                    self.assert_astray(net, room, changed(no, (3,), case), False)
            for fault in faults_of(net) + [("bus", "zz"), ("line", "a"), "ab", None]:
                known = fault in faults_of(net)
                for place in (None, (1, 3), ("root", (1, -5, 5), 0), (2, 4), (0, 1), True):
                    is_formed = known and (place is None) == (fault[0] == "bus") and place not in ((2, 4), (0, 1), True)
                    wanted = is_formed and self.is_no(net, room, fault, place, no[3], no[4])
                    self.assert_astray(net, room, ("astray", fault, place, *no[3:]), wanted)

    def test_a_standing_left_out_put_in_or_changed(self):
        draw = random.Random(116)
        for net, room, no in self.nos:
            run = no[4]
            for at in range(len(run)):
                for other in (run[:at] + run[at + 1:], run[:at + 1] + run[at:], (run[:at + 1] + run[at:])[:len(run)],
                              (run[:1] + run[:at] + run[at + 1:])[-len(run):], (*run[:at], standing_of(draw, net, room), *run[at + 1:])):
                    self.assert_astray(net, room, (*no[:4], other), self.is_no(net, room, *no[1:4], other))
            for other in (run[:-1], run + run[-1:], run[1:], (), list(run)):
                self.assert_astray(net, room, (*no[:4], other), False)

    def test_runs_that_end_well(self):
        draw = random.Random(117)
        for net, room in ((SMALL, ROOM), (EXAMPLE, as_room(EXAMPLE)), (PAIR, RELAYED)):
            for _ in range(40):
                fault, case = draw.choice(faults_of(net)), draw.choice(cases_of(net, room))
                place = None if fault[0] == "bus" else (1, 3)
                here = RoomFault(net, room, fault, place, case)
                run = [beginning_of(room)]
                while len(run) <= net[4][3]:
                    run.append(draw.choice(sorted(here.followers(run[-1]))))
                self.assert_astray(net, room, ("astray", fault, place, case, tuple(run)), False)
                ticks = draw.randint(1, net[4][3])
                wanted = not here.is_right(run[ticks])
                self.assert_astray(with_rules(net, ticks=ticks), room, ("astray", fault, place, case, tuple(run[:ticks + 1])), wanted)


class Drawn(Case):
    def test_verdicts_and_changed_ones(self):
        draw = random.Random(118)
        words = []
        for _ in range(120):
            net = draw.choice((wild_net, hazy_net, kept_net, kept_net, spoiled_net))(draw)
            room = draw.choice((wild_room, guards_room, as_guards))(draw, net)
            verdict = judge_room(net, room)
            words.append(verdict[0])
            self.assertIs(room_verdict_holds(net, room, verdict), True)
            self.assertIs(room_goes_astray(net, room, verdict), verdict[0] == "astray")
            if verdict[0] == "astray":
                _, fault, place, case, run = verdict
                for _ in range(3):
                    at = draw.randrange(len(run))
                    here = RoomFault(net, room, fault, place, case)
                    other = changed(run, (at,), draw.choice(sorted(here.followers(run[max(at - 1, 0)]))))
                    wanted = is_room_run(net, room, fault, place, case, other) and not here.is_right(other[-1])
                    self.assertIs(room_goes_astray(net, room, ("astray", fault, place, case, other)), wanted)
                    if place is not None:
                        at = pair(draw.randint(1, 39), 40)
                        wanted = is_room_run(net, room, fault, at, case, run) and not RoomFault(net, room, fault, at, case).is_right(run[-1])
                        self.assertIs(room_goes_astray(net, room, ("astray", fault, at, case, run)), wanted)
                continue
            paper = verdict[1]
            self.assertIs(is_room_shown(net, room, paper), True)
            row, at = draw.randrange(len(paper)), draw.randrange(net[4][3] + 1)
            lot = paper[row][3][at]
            left = draw.randrange(len(lot))
            self.assertIs(is_room_shown(net, room, with_lot(paper, row, at, lot[:left] + lot[left + 1:])), False)
            self.assertIs(is_room_shown(net, room, paper[:row] + paper[row + 1:]), False)
        self.assertTrue(min(words.count("selective"), words.count("astray")) > 30, words)

    def test_no_paper_shows_what_is_not_so(self):
        draw = random.Random(119)
        for _ in range(40):
            net = draw.choice((wild_net, spoiled_net, hazy_net))(draw)
            room = draw.choice((wild_room, guards_room))(draw, net)
            if judge_room(net, room)[0] == "astray" and len(net[3]) < 8:
                self.assert_not_shown(net, room, own_paper(net, room, [WHOLE]))


def as_guards(draw, net):
    """Return guards as a room."""
    return as_room(net)


if __name__ == "__main__":
    unittest.main()
