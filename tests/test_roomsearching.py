"""[27] and [29] Judging nets with rooms, and [1] what is so exactly."""

import random
import time
import unittest

import apart
from apartrooms import RoomFault, cases_of, is_room_run
from drawn import hazy_net, kept_net, pair, spoiled_net, wild_net
from drawnrooms import guards_room, pairs_of, wild_room
from justthepart.errors import BadRoom
from justthepart.places import sample
from justthepart.rooms import as_room, check_room, is_room
from justthepart.roomsearching import judge_room
from justthepart.roomtexts import read_room
from justthepart.searching import judge
from roomsamples import AGAIN, NOTHING, PAIR, RELAYED, SLOW, room_with
from samples import EXAMPLE, KINDS, VILLAGE, breakers_of, faults_of, strange_things, turning_net, with_guards, with_rules

AB0, AB1, G = ("ab", 0), ("ab", 1), ("g", 0)


class Case(unittest.TestCase):
    def assert_no(self, net, room, verdict):
        """Assert that a verdict is a no that is right, by the rules written apart."""
        self.assertEqual((type(verdict), len(verdict), verdict[0]), (tuple, 5, "astray"))
        _, fault, place, case, run = verdict
        self.assertIn(fault, faults_of(net))
        self.assertEqual(place is None, fault[0] == "bus")
        self.assertIn(case, cases_of(net, room))
        self.assertIs(type(run), tuple)
        self.assertTrue(is_room_run(net, room, fault, place, case, run))
        self.assertFalse(RoomFault(net, room, fault, place, case).is_right(run[-1]))

    def assert_yes(self, net, room, verdict, draw, many=2):
        """Assert that a verdict is a yes, and that at drawn places all runs end well, by the rules written apart."""
        self.assertEqual((type(verdict), len(verdict), verdict[0]), (tuple, 2, "selective"))
        for fault in faults_of(net):
            places = [None]
            if fault[0] == "line":
                cells = [row[1] for row in verdict[1] if row[0] == fault]
                places = [sample(draw.choice(cells)), pair(draw.randint(1, 39), 40)]
            for place in places:
                here = apart.Fault(net, fault, place)
                some = cases_of(net, room)
                for case in some if len(some) <= many else draw.sample(some, many):
                    self.assertTrue(RoomFault(net, room, fault, place, case, here).is_saved(), (fault, place, case))

    def assert_verdict(self, net, room, draw, many=2):
        """Assert that the verdict on a net with a room is right; return its word."""
        verdict = judge_room(net, room)
        if verdict[0] == "selective":
            self.assert_yes(net, room, verdict, draw, many)
        else:
            self.assert_no(net, room, verdict)
        return verdict[0]


class Forms(Case):
    def test_a_yes(self):
        for net, room in ((EXAMPLE, as_room(EXAMPLE)), (PAIR, RELAYED), (SLOW, AGAIN)):
            word, paper = judge_room(net, room)
            self.assertEqual((word, type(paper)), ("selective", tuple))
            told = cases_of(net, room)
            self.assertEqual([row[0] for row in paper[:2 * len(told):len(told)]], [("bus", "a"), ("bus", "b")])
            for at, (fault, cell, case, lots) in enumerate(paper):
                self.assertEqual(case, told[at % len(told)])
                self.assertEqual(cell is None, fault[0] == "bus")
                self.assertEqual((type(lots), len(lots)), (tuple, net[4][3] + 1))

    def test_no_rooms(self):
        for thing in strange_things() + [list(NOTHING), NOTHING[:5], room_with([("t", ("not", "zz"))]), room_with(gone=11)]:
            with self.assertRaises(BadRoom):
                judge_room(EXAMPLE, thing)

    def test_asked_twice(self):
        first, other = judge_room(PAIR, RELAYED), judge_room(EXAMPLE, NOTHING)
        self.assertEqual((judge_room(PAIR, RELAYED), judge_room(EXAMPLE, NOTHING), judge_room(PAIR, RELAYED)), (first, other, first))


class Examples(Case):
    def test_a_room_that_does_nothing(self):
        verdict = judge_room(EXAMPLE, NOTHING)
        self.assert_no(EXAMPLE, NOTHING, verdict)
        self.assertEqual(set(verdict[4]), {((), (), (), (), 0)})

    def test_a_room_of_channels(self):
        draw = random.Random(101)
        self.assertEqual(self.assert_verdict(PAIR, RELAYED, draw, 6), "selective")
        # Without any one of its sends and orders it is not.
        for part in (2, 3):
            for at in range(len(RELAYED[part])):
                room = (*RELAYED[:part], RELAYED[part][:at] + RELAYED[part][at + 1:], *RELAYED[part + 1:])
                self.assertEqual(self.assert_verdict(PAIR, room, draw, 3), "astray", (part, at))

    def test_a_channel_too_slow(self):
        draw = random.Random(102)
        for least, most in ((1, 1), (1, 2), (2, 2), (1, 3), (3, 3), (1, 4), (4, 4), (5, 5), (2, 6), (6, 6)):
            room = (tuple((name, least, most) for name, _, _ in RELAYED[0]), *RELAYED[1:])
            self.assertEqual(self.assert_verdict(PAIR, room, draw, 3), "selective" if most <= 3 else "astray")
        # With two ticks more it may be slower by two.
        self.assertEqual([judge_room(with_rules(PAIR, ticks=8), ((("ca", 1, most), ("cb", 1, most)), *RELAYED[1:]))[0] for most in (5, 6)],
                         ["selective", "astray"])

    def test_a_room_that_shuts_again(self):
        draw = random.Random(103)
        self.assertEqual(self.assert_verdict(SLOW, AGAIN, draw, 6), "selective")
        # Without a shut a passing fault leaves a breaker open; a lasting one does no harm.
        for at in range(len(AGAIN[4])):
            room = (*AGAIN[:4], AGAIN[4][:at] + AGAIN[4][at + 1:], AGAIN[5])
            verdict = judge_room(SLOW, room)
            self.assert_no(SLOW, room, verdict)
            self.assertIs(verdict[3][1], True)
        room = (*AGAIN[:4], (), 0)
        self.assertEqual(self.assert_verdict(SLOW, room, draw, 6), "selective")
        # One that takes longer to pass is met when all is shut again: then breakers open for good.
        for gone, wanted in ((8, "selective"), (10, "astray")):
            self.assertEqual(self.assert_verdict(SLOW, (*AGAIN[:5], gone), draw, 3), wanted)

    def test_guards_as_a_room_that_passes(self):
        room = (*as_room(EXAMPLE)[:5], 1)
        verdict = judge_room(EXAMPLE, room)
        self.assert_no(EXAMPLE, room, verdict)
        self.assertIs(verdict[3][1], True)

    def test_rooms_that_swing(self):
        draw = random.Random(104)
        room = as_room(EXAMPLE)
        swing = ((("c", 3, 3),), (*room[1], ("x", ("got", "c")), ("m", ("not", "x"))), (("c", "m"),), *room[3:])
        self.assertEqual(self.assert_verdict(EXAMPLE, swing, draw), "selective")
        # It swings with a source's breaker: that is never quiet.
        other = (*swing[:3], tuple(sorted([*room[3], (G, "m")])), ((G, "x"),), 0)
        self.assertEqual(self.assert_verdict(EXAMPLE, other, draw), "astray")
        # It runs through more standings than 1,000, though no breaker moves.
        lets = [("x", ("got", "c")), ("m", ("not", "x")), ("z", ("got", "d")), ("k", ("not", "z")), *VILLAGE_LETS]
        wide = ((("c", 1, 6), ("d", 1, 6)), tuple(lets), (("c", "m"), ("d", "k")), *VILLAGE_ROOM[3:])
        self.assertEqual(judge_room(VILLAGE, VILLAGE_ROOM)[0], "selective")
        verdict = judge_room(with_rules(VILLAGE, ticks=7), wide)
        self.assertEqual(verdict[0], "astray")
        here = RoomFault(VILLAGE, wide, *verdict[1:4])
        self.assertFalse(here.burns(verdict[4][-1][0]))
        self.assertFalse(here.is_quiet(verdict[4][-1]))

    def test_a_room_without_guards(self):
        # A clock that opens all there is: nothing sees, and nothing can fail.
        net = with_guards(VILLAGE, [])
        room = room_with([("x", ("open", G)), ("m", ("not", "x"))], orders=((G, "m"), (("h", 0), "m")))
        self.assertEqual(judge_room(net, room)[0], "selective")
        self.assert_no(net, NOTHING, judge_room(net, NOTHING))
        # A fault at another bus is none of its business.
        net = (("a", "b"), (("l", "a", "b", 1),), net[2], (), net[4])
        self.assert_no(net, room, judge_room(net, room))

    def test_astray_at_one_place_only(self):
        net = turning_net()
        room = as_room(net)
        self.assertTrue(is_room(net, room))
        verdict = judge_room(net, room)
        self.assert_no(net, room, verdict)
        self.assertEqual(verdict[1:4], (("line", "l1"), (1, 4), (("guard", "d"), False)))
        other = turning_net("445/1000")
        self.assertEqual(judge_room(other, as_room(other))[0], "selective")

    def test_astray_for_one_choice_of_a_channel_only(self):
        # g is shut again if the channel still brings 1 on three ticks on which nothing is seen any more.
        room = read_room(VILLAGE, "let t or e1 e2\nchannel c 1 3\nsend c t\nlet n got c\nlet m not t\nlet x and n m\nlet w timer x 2 0\n"
                                  "let q open g\nlet r not q\nlet never and q r\nlet bad latch w never\nlet back and bad q\n"
                                  "order g t\norder h t\nshut g back")
        net = with_rules(VILLAGE, least=2, most=2, ticks=12)
        draw = random.Random(105)
        for least, most, wanted in ((1, 1, "selective"), (1, 2, "selective"), (2, 2, "selective"), (1, 3, "astray"), (3, 3, "astray")):
            self.assertEqual(self.assert_verdict(net, ((("c", least, most),), *room[1:]), draw, 6), wanted)
        verdict = judge_room(net, room)
        # On three ticks in a row the channel brought what was sent longest ago.
        self.assertIn((3, 0), [standing[1][4] for standing in verdict[4]])
        here = RoomFault(net, room, *verdict[1:4])
        ends = [standing for standing in here.lots()[-1] if not here.is_right(standing)]
        self.assertLess(len(ends), len(here.lots()[-1]))


VILLAGE_LETS = as_room(VILLAGE)[1]
VILLAGE_ROOM = as_room(VILLAGE)


class Guards(Case):
    def test_samples(self):
        for net in (EXAMPLE, KINDS, VILLAGE, with_guards(EXAMPLE, []), with_guards(EXAMPLE, EXAMPLE[3][1:]), with_rules(EXAMPLE, ticks=6),
                    with_rules(EXAMPLE, ticks=7), with_rules(EXAMPLE, ticks=8), with_rules(EXAMPLE, error=(0, 1))):
            self.assertEqual(judge_room(net, as_room(net))[0], judge(net)[0])

    def test_drawn_nets(self):
        draw = random.Random(106)
        words = []
        for _ in range(300):
            net = draw.choice((wild_net, hazy_net, kept_net, kept_net, spoiled_net))(draw)
            words.append(judge(net)[0])
            self.assertEqual(judge_room(net, as_room(net))[0], words[-1])
        self.assertTrue(min(words.count("selective"), words.count("astray")) > 50)


def spoilt_room(draw, net):
    """Return a room that does what guards do, but for something."""
    channels, lets, sends, orders, shuts, gone = guards_room(draw, net, draw.choice((None, (1, 1), (1, 2))))
    if draw.random() < 0.4 and orders:
        orders = tuple(pair for pair in orders if draw.random() < 0.95)
    if draw.random() < 0.3:
        channels = tuple((name, least, draw.randint(least, 3)) for name, least, _ in channels)
    if draw.random() < 0.3:
        shuts = pairs_of(draw, breakers_of(net), [let[0] for let in lets], 1)
    if draw.random() < 0.3:
        lets = tuple((name, (*what[:2], what[2] + draw.randint(0, 1), draw.randint(0, 2)) if what[0] == "timer" else what)
                     for name, what in lets)
    if draw.random() < 0.2:
        gone = draw.randint(1, 2)
    return (channels, lets, sends, orders, shuts, gone)


class Drawn(Case):
    def assert_drawn(self, draw, nets, rooms, many):
        """Assert that verdicts on drawn nets with drawn rooms are right; return their words."""
        words = []
        for _ in range(many):
            net = draw.choice(nets)(draw)
            room = draw.choice(rooms)(draw, net)
            check_room(net, room)
            words.append(self.assert_verdict(net, room, draw))
        return words

    def test_wild_rooms(self):
        words = self.assert_drawn(random.Random(107), (wild_net, hazy_net, kept_net), (wild_room,), 150)
        self.assertGreater(words.count("astray"), 50)

    def test_spoilt_rooms(self):
        words = self.assert_drawn(random.Random(108), (kept_net, kept_net, spoiled_net, hazy_net), (spoilt_room,), 200)
        self.assertTrue(min(words.count("selective"), words.count("astray")) > 30, words)

    def test_passing_faults(self):
        words = self.assert_drawn(random.Random(109), (village_net,), (again_room,), 120)
        self.assertTrue(min(words.count("selective"), words.count("astray")) > 20, words)


def village_net(draw):
    """Return a net of one bus with two guards or three that see the same."""
    guards = [(f"e{at}", ("difference", "a", (1, 9)), 0, (G,)) for at in range(draw.randint(2, 3))]
    least = draw.randint(1, 2)
    return with_rules(with_guards(VILLAGE, guards), least=least, most=draw.randint(least, 3), ticks=draw.randint(12, 24))


def again_room(draw, net):
    """Return a room that shuts again what it opened, once if all is well, too soon or too often if not."""
    wait = draw.randint(1, 6)
    rows = [f"gone {draw.randint(0, 4)}", "let back open g", "let none not back", "let never and back none"]
    if draw.random() < 0.5:
        rows += ["let trip or e0 e1"]
    else:
        rows += [f"channel c {draw.randint(1, 2)} 2", "send c e1", "let far got c", "let trip or e0 far"]
    rows += [f"let wait timer back {wait} {draw.choice((0, 0, 1))}", "let was latch wait never", "let twice and trip was",
             f"let lock latch {draw.choice(('twice', 'twice', 'twice', 'never'))} never", "let may not lock", "let again and wait may",
             "order g trip", "order h trip", "shut g again", "shut h again"]
    if draw.random() < 0.2:
        rows.remove(draw.choice(("shut h again", "order h trip")))
    return read_room(net, "\n".join(rows))


class Time(unittest.TestCase):
    def test_many_small_ones(self):
        # Many times what it takes: for what grows without bound only.
        draw = random.Random(110)
        begin = time.perf_counter()
        for _ in range(150):
            net = kept_net(draw, 2)
            judge_room(net, guards_room(draw, net, (1, 2), draw.randint(0, 2)))
        self.assertLess(time.perf_counter() - begin, 60)


if __name__ == "__main__":
    unittest.main()
