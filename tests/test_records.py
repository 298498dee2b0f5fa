"""[21] Records: what a run tells, the runs that tell it, what opened, and who is in the dark."""

import random
import unittest

import apart
from apartrooms import RoomFault, beginning_of
from drawn import hazy_net, kept_net, net_of_all_kinds, pair, spoiled_net, wild_net
from drawnrooms import wild_room
from justthepart.records import dark_at, opened_in, record, steps_of
from justthepart.searching import judge
from samples import EXAMPLE, KINDS, VILLAGE, breakers_of, faults_of, with_guards, with_rules

AB0, AB1, G = ("ab", 0), ("ab", 1), ("g", 0)
FAULT = ("line", "ab")
HALF = (1, 2)
START = ((), (0,) * 7, ())
ORDERED = ((), (1, 1, 0, 0, 0, 0, 1), ((AB0, 0), (AB1, 0)))

# Root 1/2 (sqrt 5 - 1), and the higher root of 1 - 5 x + 5 x x.
LOW, HIGH = ("root", (-1, 1, 1), 1), ("root", (1, -5, 5), 0)


def name_of(net, breaker):
    """Return the name of a breaker as texts have it."""
    return f"{breaker[0]}.{breaker[1]}" if breaker[0] in [line[0] for line in net[1]] else breaker[0]


def own_lines(net, here, failing, run):
    """Return the lines of a run's ticks, worked out apart."""
    out = []
    for (opened, _, ages), (then, _, ages_then) in zip(run, run[1:]):
        sights = here.sees(opened, {breaker for breaker, _ in ages}, failing)
        looks = [(guard[0], {1: "perhaps", 2: "yes"}[sight]) for guard, sight in zip(net[3], sights) if sight]
        looks = " ".join(word for look in looks for word in look) or "nothing"
        orders = [name_of(net, breaker) for breaker in sorted(set(dict(ages_then)) - set(dict(ages)))]
        opens = [name_of(net, breaker) for breaker in sorted(set(then) - set(opened))]
        out.append(f"sees {looks}; orders {' '.join(orders) or 'none'}; opens {' '.join(opens) or 'none'}")
    return out


def drawn_run(draw, net, here, failing, ticks):
    """Return a run of so many ticks, drawn."""
    run = [((), (0,) * len(net[3]), ())]
    for _ in range(ticks):
        run.append(draw.choice(sorted(here.followers(run[-1], failing))))
    return tuple(run)


class Records(unittest.TestCase):
    def assert_record(self, lines, net, fault, place, failing, run):
        self.assertEqual(record(net, fault, place, failing, run).split("\n"), lines)

    def test_first_lines(self):
        for fault, place, wanted in ((("bus", "a"), None, "fault bus a"), (("bus", "b"), None, "fault bus b"),
                                     (FAULT, (1, 3), "fault line ab at 1/3"), (FAULT, (999, 1000), "fault line ab at 999/1000"),
                                     (FAULT, LOW, "fault line ab at root -1 1 1 higher"),
                                     (FAULT, HIGH, "fault line ab at root 1 -5 5 lower")):
            self.assert_record([wanted, "nothing fails"], EXAMPLE, fault, place, None, (START,))
        # The one of the document, as a place on a line whatever it is worth.
        root = ("root", (-1, 0, 2), 1)
        self.assert_record(["fault line ab at root -1 0 2 higher", "nothing fails"], EXAMPLE, FAULT, root, None, (START,))

    def test_second_lines(self):
        for failing, wanted in ((None, "nothing fails"), (("guard", "d1"), "guard d1 fails"), (("guard", "z2"), "guard z2 fails"),
                                (("breaker", AB0), "breaker ab.0 fails"), (("breaker", AB1), "breaker ab.1 fails")):
            self.assertEqual(record(EXAMPLE, FAULT, HALF, failing, (START,)), "fault line ab at 1/2\n" + wanted)

    def test_ticks(self):
        run = (START, ORDERED, ((AB0,), (1, 1, 1, 0, 0, 0, 2), ((AB1, 1),)), ((AB0, AB1), (0,) * 7, ()))
        self.assert_record(["fault line ab at 1/2", "nothing fails", "sees d1 yes d2 yes z2 yes; orders ab.0 ab.1; opens none",
                            "sees d1 yes d2 yes f0 yes z2 yes; orders none; opens ab.0", "sees nothing; orders none; opens ab.1"],
                           EXAMPLE, FAULT, HALF, None, run)
        # A failing guard, and a breaker that fails and is ordered; behind it f0 sees as long as it is ordered and shut.
        run = (START, ((), (0, 1, 0, 0, 0, 0, 1), ((AB0, 0), (AB1, 0))))
        self.assert_record(["fault line ab at 1/2", "guard d1 fails", "sees d2 yes z2 yes; orders ab.0 ab.1; opens none"],
                           EXAMPLE, FAULT, HALF, ("guard", "d1"), run)
        run = (START, ORDERED, ((AB1,), (1, 1, 1, 0, 0, 0, 2), ((AB0, 1),)), ((AB1,), (1, 1, 2, 0, 0, 0, 3), ((AB0, 2),)),
               ((AB1,), (1, 1, 3, 0, 0, 0, 4), ((AB0, 2), (G, 0))), ((AB1, G), (1, 1, 3, 0, 0, 0, 5), ((AB0, 2),)))
        self.assert_record(["fault line ab at 1/2", "breaker ab.0 fails", "sees d1 yes d2 yes z2 yes; orders ab.0 ab.1; opens none",
                            "sees d1 yes d2 yes f0 yes z2 yes; orders none; opens ab.1",
                            "sees d1 yes d2 yes f0 yes z2 yes; orders none; opens none",
                            "sees d1 yes d2 yes f0 yes z2 yes; orders g; opens none",
                            "sees d1 yes d2 yes f0 yes z2 yes; orders none; opens g"], EXAMPLE, FAULT, HALF, ("breaker", AB0), run)

    def test_perhaps_and_yes(self):
        guards = [("p1", ("over", AB0, (1, 8), False), 5, (AB1,)), ("y1", ("over", AB0, (1, 1000), False), 0, (G, AB1, AB0)[::-1]),
                  ("n1", ("over", AB0, (1000, 1), False), 0, (G,)), ("p2", ("over", G, (1, 8), False), 0, (AB0,))]
        net = with_rules(with_guards(EXAMPLE, guards), least=1, most=1)
        for held, orders in (((0, 1, 0, 0), "ab.0 ab.1 g"), ((1, 1, 0, 1), "ab.0 ab.1 g")):
            run = (((), (0,) * 4, ()), ((), held, ((AB0, 0), (AB1, 0), (G, 0))), ((AB0, AB1, G), (0, 1, 0, 0), ()))
            self.assert_record(["fault line ab at 1/2", "nothing fails", f"sees p1 perhaps y1 yes p2 perhaps; orders {orders}; opens none",
                                "sees p1 perhaps y1 yes p2 perhaps; orders none; opens ab.0 ab.1 g"], net, FAULT, HALF, None, run)

    def test_runs_of_judge(self):
        for net in (with_guards(EXAMPLE, EXAMPLE[3][2:]), with_rules(EXAMPLE, ticks=5), KINDS, with_guards(VILLAGE, VILLAGE[3][:1])):
            _, fault, place, failing, run = judge(net)
            here = apart.Fault(net, fault, place)
            lines = record(net, fault, place, failing, run).split("\n")
            self.assertEqual(len(lines), net[4][3] + 2)
            self.assertEqual(lines[2:], own_lines(net, here, failing, run))
            self.assertIn(run, steps_of(net, fault, place, failing, lines[2:]))

    def test_drawn_runs(self):
        draw = random.Random(61)
        kinds = {"perhaps": 0, "nothing;": 0, "opens none": 0, "orders s": 0, "orders none": 0}
        for _ in range(250):
            net = draw.choice((wild_net, kept_net, spoiled_net, hazy_net))(draw)
            fault = draw.choice(faults_of(net))
            place = None if fault[0] == "bus" else draw.choice((pair(draw.randint(1, 39), 40), LOW, HIGH))
            failing = draw.choice(apart.failings_of(net))
            here = apart.Fault(net, fault, place)
            run = drawn_run(draw, net, here, failing, draw.randint(0, 6))
            text = record(net, fault, place, failing, run)
            self.assertEqual(text.split("\n")[2:], own_lines(net, here, failing, run))
            for kind in kinds:
                kinds[kind] += kind in text
        self.assertTrue(all(many > 10 for many in kinds.values()), kinds)


class Steps(unittest.TestCase):
    def test_no_text(self):
        self.assertEqual(steps_of(EXAMPLE, FAULT, HALF, None, []), [(START,)])
        self.assertEqual(steps_of(VILLAGE, ("bus", "a"), None, ("guard", "e1"), ()), [(((), (0, 0), ()),)])

    def test_texts_of_no_run(self):
        right = "sees d1 yes d2 yes z2 yes; orders ab.0 ab.1; opens none"
        self.assertEqual(steps_of(EXAMPLE, FAULT, HALF, None, [right]), [(START, ORDERED)])
        for text in ("", right + " ", right + "\n", right.replace("yes z2", "perhaps z2"), right.replace("ab.0 ab.1", "ab.1 ab.0"),
                     right.upper(), "sees nothing; orders none; opens none", right.replace("  ", " ").replace("; ", ";"), "zz"):
            self.assertEqual(steps_of(EXAMPLE, FAULT, HALF, None, [text]), [])
            self.assertEqual(steps_of(EXAMPLE, FAULT, HALF, None, [right, text]), [])
        self.assertEqual(steps_of(EXAMPLE, FAULT, HALF, None, [right, right]), [])
        self.assertEqual(steps_of(EXAMPLE, FAULT, HALF, ("guard", "d1"), [right]), [])
        self.assertEqual(steps_of(EXAMPLE, ("bus", "a"), None, None, [right]), [])

    def test_several_runs_that_look_alike(self):
        # Whether p held on a tick is told only once it orders something, if it ever does.
        net = with_rules(with_guards(EXAMPLE, [("p", ("over", AB0, (1, 8), False), 1, (G,))]), least=1, most=1)
        quiet = "sees p perhaps; orders none; opens none"
        found = steps_of(net, FAULT, HALF, None, [quiet])
        self.assertEqual(sorted(found), [(((), (0,), ()), ((), (0,), ())), (((), (0,), ()), ((), (1,), ()))])
        found = steps_of(net, FAULT, HALF, None, [quiet] * 3)
        # All rows of three holds in which no two follow each other.
        self.assertEqual(len(found), 5)
        found = steps_of(net, FAULT, HALF, None, [quiet] * 3 + ["sees p perhaps; orders g; opens none"])
        self.assertEqual(sorted([standing[1][0] for standing in run] for run in found), [[0, 0, 0, 1, 2], [0, 1, 0, 1, 2]])

    def test_runs_that_come_to_nothing_are_not_begun(self):
        # Of the very many runs of 30 ticks that are told alike few come to the last line.
        net = with_rules(with_guards(EXAMPLE, [("p", ("over", AB0, (1, 8), False), 20, (G,))]), least=1, most=1)
        texts = ["sees p perhaps; orders none; opens none"] * 30 + ["sees nothing; orders none; opens none"]
        self.assertEqual(steps_of(net, FAULT, HALF, None, texts), [])

    def test_drawn_runs(self):
        draw = random.Random(62)
        several = 0
        for _ in range(150):
            net = draw.choice((wild_net, spoiled_net, hazy_net))(draw)
            fault = draw.choice(faults_of(net))
            place = None if fault[0] == "bus" else pair(draw.randint(1, 39), 40)
            failing = draw.choice(apart.failings_of(net))
            here = apart.Fault(net, fault, place)
            ticks = draw.randint(1, 3)
            run = drawn_run(draw, net, here, failing, ticks)
            texts = own_lines(net, here, failing, run)
            runs = [[run[0]]]
            for _ in range(ticks):
                runs = [[*one, then] for one in runs for then in here.followers(one[-1], failing)]
                if len(runs) > 3000:
                    break
            else:
                wanted = sorted(tuple(one) for one in runs if own_lines(net, here, failing, one) == texts)
                found = steps_of(net, fault, place, failing, texts)
                self.assertIs(type(found), list)
                self.assertEqual(sorted(found), wanted)
                self.assertIn(run, found)
                several += len(found) > 1
        self.assertGreater(several, 5)


class Opened(unittest.TestCase):
    def test_by_hand(self):
        run = (START, ORDERED, ((AB0, AB1), (0,) * 7, ()), ((AB0, AB1), (0,) * 7, ()), ((AB0, AB1, G), (0,) * 7, ()))
        self.assertEqual(opened_in(run), [(2, AB0), (2, AB1), (4, G)])
        self.assertEqual(opened_in(run[:2]), [])
        self.assertEqual(opened_in(run[:1]), [])
        self.assertEqual(opened_in(run[1:]), [(1, AB0), (1, AB1), (3, G)])
        # What is open at the first standing did not open in the run.
        self.assertEqual(opened_in(run[2:]), [(2, G)])

    def test_drawn_runs(self):
        draw = random.Random(63)
        many = 0
        for _ in range(120):
            net = draw.choice((wild_net, kept_net))(draw)
            fault = draw.choice(faults_of(net))
            failing = draw.choice(apart.failings_of(net))
            here = apart.Fault(net, fault, None if fault[0] == "bus" else HALF)
            run = drawn_run(draw, net, here, failing, 8)
            found = opened_in(run)
            self.assertIs(type(found), list)
            self.assertEqual(found, sorted(found))
            self.assertEqual(tuple(sorted(breaker for _, breaker in found)), run[-1][0])
            for tick, breaker in found:
                self.assertIn(breaker, run[tick][0])
                self.assertNotIn(breaker, run[tick - 1][0])
            many += len(found)
        self.assertGreater(many, 100)

    def test_breakers_that_open_twice(self):
        standing = beginning_of(((), (), (), (), (), 0))
        run = [(opened, *standing[1:]) for opened in ((), (G,), (), (AB0, G), (AB0,), (AB0, G))]
        self.assertEqual(opened_in(tuple(run)), [(1, G), (3, AB0), (3, G), (5, G)])


class Dark(unittest.TestCase):
    def test_by_hand(self):
        self.assertEqual(dark_at(EXAMPLE, ()), [])
        self.assertEqual(dark_at(EXAMPLE, (AB0,)), ["b"])
        self.assertEqual(dark_at(EXAMPLE, (AB1,)), ["b"])
        self.assertEqual(dark_at(EXAMPLE, (G,)), ["a", "b"])
        self.assertEqual(dark_at(KINDS, ()), ["lone"])
        self.assertEqual(dark_at(KINDS, (("ab", 0), ("bc", 1), ("g", 0))), ["a", "b", "lone"])
        self.assertEqual(dark_at(KINDS, (("bc", 0), ("h", 0))), ["c", "lone"])
        self.assertEqual(dark_at(KINDS, (("g", 0), ("h", 0))), ["a", "b", "c", "lone"])
        self.assertEqual(dark_at(VILLAGE, (("g", 0),)), [])
        self.assertEqual(dark_at(VILLAGE, (("g", 0), ("h", 0))), ["a"])

    def test_drawn_nets(self):
        draw = random.Random(64)
        for _ in range(200):
            net = net_of_all_kinds(draw)
            opened = tuple(breaker for breaker in breakers_of(net) if draw.random() < 0.3)
            fed = apart.fed_buses(net, opened, None)[0]
            self.assertEqual(dark_at(net, opened), [bus for bus in net[0] if bus not in fed])


class RoomRuns(unittest.TestCase):
    def test_what_opens_in_runs_of_rooms(self):
        draw = random.Random(65)
        again = 0
        for _ in range(120):
            net = wild_net(draw)
            room = wild_room(draw, net)
            fault = draw.choice(faults_of(net))
            here = RoomFault(net, room, fault, None if fault[0] == "bus" else HALF, (None, False))
            run = [beginning_of(room)]
            for _ in range(10):
                run.append(draw.choice(sorted(here.followers(run[-1]))))
            wanted = [(at, breaker) for at in range(1, 11) for breaker in run[at][0] if breaker not in run[at - 1][0]]
            self.assertEqual(opened_in(tuple(run)), wanted)
            again += len(set(breaker for _, breaker in wanted)) < len(wanted)
        self.assertGreater(again, 0)


if __name__ == "__main__":
    unittest.main()
