"""[23] and [29] Rooms: what is one, and guards as a room."""

import random
import unittest

from drawn import hazy_net, kept_net, net_of_all_kinds, wild_net
from drawnrooms import guards_room, wild_room
from justthepart.errors import BadRoom, GuardError
from justthepart.nets import check_net
from justthepart.rooms import as_room, check_room, is_room
from roomsamples import FULL, NET_WORDS, NOTHING, ROOM_WORDS, room_with
from samples import EXAMPLE, KINDS, VILLAGE, Awkward, at_path, changed, paths_of, strange_things, with_guards

AB0, AB1, G = ("ab", 0), ("ab", 1), ("g", 0)


class Case(unittest.TestCase):
    def assert_room(self, room, net=EXAMPLE):
        self.assertIsNone(check_room(net, room))
        self.assertIs(is_room(net, room), True)

    def assert_no_room(self, room, net=EXAMPLE):
        self.assertIs(is_room(net, room), False)
        with self.assertRaises(BadRoom) as caught:
            check_room(net, room)
        self.assertIsInstance(caught.exception, GuardError)
        self.assertTrue(hasattr(caught.exception, "name") and hasattr(caught.exception, "why"))


class Taken(Case):
    def test_rooms(self):
        for room in (NOTHING, FULL, as_room(EXAMPLE)):
            self.assert_room(room)
        self.assert_room(NOTHING, VILLAGE)
        self.assert_room(NOTHING, with_guards(VILLAGE, []))

    def test_names_that_stand_several_times(self):
        self.assert_room(room_with([("x", ("and", ("d1",) * 9)), ("y", ("or", ("x", "x"))), ("z", ("latch", "x", "x"))]))
        self.assert_room(room_with(orders=((AB0, "d1"), (AB0, "d2"), (AB0, "z1")), shuts=((AB0, "d1"),)))

    def test_names_of_buses_lines_and_sources(self):
        self.assert_room(room_with([("a", ("not", "d1")), ("ab", ("not", "a")), ("g", ("or", ("ab", "a")))],
                                   channels=(("b", 1, 1),), sends=(("b", "g"),), orders=((AB0, "ab"), (G, "g"))))

    def test_a_room_without_guards(self):
        self.assert_room(room_with([("x", ("open", G)), ("y", ("not", "x"))], orders=((G, "y"),)), with_guards(VILLAGE, []))

    def test_limits(self):
        channels = tuple((f"c{at}", at, 6) for at in range(1, 5))
        self.assert_room(room_with(channels=channels))
        self.assert_no_room(room_with(channels=(*channels, ("c5", 1, 1))))
        for least, most in ((1, 1), (1, 6), (6, 6), (3, 4)):
            self.assert_room(room_with(channels=(("c", least, most),)))
        for least, most in ((0, 1), (0, 0), (1, 7), (7, 7), (2, 1), (6, 5), (-1, 3), (1, 0)):
            self.assert_no_room(room_with(channels=(("c", least, most),)))
        lets = [(f"l{at}", ("not", "d1")) for at in range(24)]
        self.assert_room(room_with(lets))
        self.assert_no_room(room_with([*lets, ("more", ("not", "d1"))]))
        for on, off in ((0, 0), (20, 20), (0, 20), (20, 0)):
            self.assert_room(room_with([("t", ("timer", "d1", on, off))]))
        for on, off in ((21, 0), (0, 21), (-1, 0), (0, -1), (10 ** 5000, 0)):
            self.assert_no_room(room_with([("t", ("timer", "d1", on, off))]))
        for gone, wanted in ((0, True), (10, True), (11, False), (-1, False)):
            self.assertIs(is_room(EXAMPLE, room_with(gone=gone)), wanted)

    def test_names(self):
        for name in ("x", "x1234567", "zzzzzzzz", "d", "d11", "bu", "lets", "opened", "no"):
            self.assert_room(room_with([(name, ("not", "d1"))]))
            self.assert_room(room_with(channels=((name, 1, 1),)))
        for name in ["", "x12345678", "1x", "X", "x.1", "x y", "\u00e9", None, 1, b"x", ("x",), "d1", "z2"] + NET_WORDS + ROOM_WORDS:
            self.assert_no_room(room_with([(name, ("not", "d1"))]))
            self.assert_no_room(room_with(channels=((name, 1, 1),)))
        self.assert_no_room(room_with([("x", ("not", "d1")), ("x", ("not", "d2"))]))
        self.assert_no_room(room_with(channels=(("x", 1, 1), ("x", 1, 2))))
        self.assert_no_room(room_with([("x", ("not", "d1"))], channels=(("x", 1, 1),)))

    def test_guards_may_have_words_of_rooms_as_names(self):
        net = with_guards(EXAMPLE, [(name, *EXAMPLE[3][0][1:]) for name in ROOM_WORDS])
        self.assertIsNone(check_net(net))
        self.assert_room(room_with([("x", ("and", ("and", "let", "open"))), ("y", ("latch", "got", "x"))],
                                   orders=((AB0, "not"), (AB0, "shut"))), net)
        self.assert_room(as_room(net), net)


class NotTaken(Case):
    def test_anything(self):
        for thing in strange_things():
            self.assert_no_room(thing)
            for at in range(6):
                if not (isinstance(thing, tuple) and len(thing) == 0 or type(thing) is int and 0 <= thing <= 10 and at == 5):
                    self.assert_no_room(changed(NOTHING, (at,), thing))

    def test_anything_anywhere(self):
        draw = random.Random(71)
        things = strange_things()
        for path in paths_of(FULL):
            for thing in draw.sample(things, 8) + [Awkward(), (Awkward(),), "zz", "ab", 7.0, 99]:
                # An integer or name in the place of another one, or nothing in the place of some pairs, may be right.
                is_alike = type(thing) is type(at_path(FULL, path)) and type(thing) in (int, str)
                if not (is_alike or type(thing) is tuple and len(thing) == 0):
                    self.assert_no_room(changed(FULL, path, thing))

    def test_a_list_in_the_place_of_a_tuple(self):
        for path in paths_of(FULL):
            part = at_path(FULL, path)
            if isinstance(part, tuple):
                self.assert_no_room(changed(FULL, path, list(part)))
                self.assert_no_room(changed(FULL, path, (*part, None)))
                if path not in ((0,), (1,), (2,), (3,), (4,)) and part[:-1] != ("d1", "d2"):
                    self.assert_no_room(changed(FULL, path, part[:-1]))

    def test_bools_in_the_place_of_integers(self):
        for path in paths_of(FULL):
            if at_path(FULL, path) in (0, 1):
                self.assert_no_room(changed(FULL, path, bool(at_path(FULL, path))))
        self.assert_no_room(changed(NOTHING, (5,), False))

    def test_kinds_of_lets(self):
        for what in (("xor", ("d1", "d2")), ("and",), ("and", ()), ("or", ()), ("and", "d1"), ("and", "d1", "d2"), ("or", ["d1"]),
                     ("not",), ("not", "d1", "d2"), ("not", ("d1",)), ("timer", "d1", 1), ("timer", "d1"), ("timer", "d1", 1, 1, 1),
                     ("timer", 1, "d1", 1), ("latch", "d1"), ("latch", ("d1", "d2")), ("latch", "d1", "d2", "d1"), ("got",), ("got", "c1", "c1"),
                     ("open",), ("open", AB0, AB1), ("open", "g"), ("open", "ab", 0), (), "not", ("d1",), (("not", "d1"),), None,
                     ("let", "d1"), ("And", ("d1",)), (b"not", "d1"), ("behind", AB0)):
            self.assert_no_room(room_with([("x", what)], channels=(("c1", 1, 1),)))

    def test_names_of_nothing_that_may_be_asked(self):
        # A let that is told later, the let itself, a bus, a line, a source, a channel, nothing.
        for name in ("y", "x", "a", "ab", "g", "c1", "zz", "", "and", AB0, None, 1, ("d1",)):
            for what in (("and", ("d1", name)), ("or", (name,)), ("not", name), ("timer", name, 0, 0), ("latch", name, "d1"),
                         ("latch", "d1", name)):
                self.assert_no_room(room_with([("x", what), ("y", ("not", "d1"))], channels=(("c1", 1, 1),)))
        for name in ("zz", "x", "d1", "ab", "", None, ("c1",), 0):
            self.assert_no_room(room_with([("x", ("got", name))], channels=(("c1", 1, 1),)))
        self.assert_no_room(room_with([("x", ("got", "c1"))]))
        for breaker in (("ab", 2), ("g", 1), ("a", 0), ("d1", 0), ("zz", 0), "g", "ab.0", ("ab",), ("ab", -1), (0, "ab"), None):
            self.assert_no_room(room_with([("x", ("open", breaker))]))
            self.assert_no_room(room_with(orders=((breaker, "d1"),)))
            self.assert_no_room(room_with(shuts=((breaker, "d1"),)))

    def test_any_lets_in_sends_orders_and_shuts(self):
        lets, channels = [("x", ("not", "d1")), ("y", ("not", "x"))], (("c1", 1, 1), ("c2", 1, 1))
        for name, wanted in (("x", True), ("y", True), ("d1", True), ("c1", False), ("ab", False), ("g", False), ("zz", False), (1, False)):
            for part in ({"sends": (("c1", name),)}, {"orders": ((AB0, name),)}, {"shuts": ((AB0, name),)}):
                self.assertIs(is_room(EXAMPLE, room_with(lets, channels, **part)), wanted)
        for channel in ("c3", "x", "d1", "", None, 1, ("c1",)):
            self.assert_no_room(room_with(lets, channels, ((channel, "x"),)))

    def test_what_does_not_ascend_or_stands_twice(self):
        channels = (("c1", 1, 1), ("c2", 1, 1))
        self.assert_room(room_with(channels=channels, sends=(("c1", "e1"), ("c2", "d1"))))
        for sends in ((("c2", "d1"), ("c1", "e1")), (("c1", "d1"), ("c1", "d1")), (("c1", "d1"), ("c1", "d2"))):
            self.assert_no_room(room_with(channels=channels, sends=sends))
        self.assert_room(room_with(channels=(("z", 1, 1), ("c", 1, 1)), sends=(("c", "d1"), ("z", "d1"))))
        for pairs, wanted in ((((AB0, "d1"), (AB0, "d2"), (AB1, "d1"), (G, "d1")), True), (((AB0, "d2"), (AB0, "d1")), False),
                              (((AB1, "d1"), (AB0, "d2")), False), (((G, "d1"), (AB0, "d1")), False),
                              (((AB0, "d1"), (AB0, "d1")), False), (((AB0, "d1"), (AB1, "d1"), (AB0, "d1")), False)):
            self.assertIs(is_room(EXAMPLE, room_with(orders=pairs)), wanted)
            self.assertIs(is_room(EXAMPLE, room_with(shuts=pairs)), wanted)
            self.assert_room(room_with(orders=((AB0, "d1"),), shuts=((AB0, "d1"),)))

    def test_a_room_of_another_net(self):
        self.assert_room(FULL)
        for net in (VILLAGE, KINDS, with_guards(EXAMPLE, EXAMPLE[3][1:])):
            self.assert_no_room(FULL, net)
        self.assert_no_room(FULL, with_guards(EXAMPLE, [*EXAMPLE[3], ("l4", *EXAMPLE[3][0][1:])]))
        self.assert_no_room(FULL, with_guards(EXAMPLE, [*EXAMPLE[3], ("c2", *EXAMPLE[3][0][1:])]))

    def test_drawn_rooms(self):
        draw = random.Random(72)
        for _ in range(200):
            net = draw.choice((wild_net, hazy_net, kept_net))(draw)
            self.assert_room(wild_room(draw, net, 24, 4), net)
            self.assert_room(guards_room(draw, net, (1, 2), 3)[:1] + guards_room(draw, net)[1:], net)


class AsRoom(Case):
    def assert_as_guards(self, net):
        room = as_room(net)
        self.assert_room(room, net)
        channels, lets, sends, orders, shuts, gone = room
        self.assertEqual((channels, sends, shuts, gone), ((), (), (), 0))
        self.assertEqual([what for _, what in lets], [("timer", guard[0], guard[2], 0) for guard in net[3]])
        for (name, _), guard in zip(lets, net[3]):
            self.assertEqual(tuple(breaker for breaker, other in orders if other == name), guard[3])

    def test_samples(self):
        for net in (EXAMPLE, KINDS, VILLAGE, with_guards(EXAMPLE, [])):
            self.assert_as_guards(net)

    def test_whatever_guards_are_called(self):
        draw = random.Random(73)
        for _ in range(60):
            net = net_of_all_kinds(draw)
            names = draw.sample([f"{sign}{at}" for sign in "tglrx" for at in range(9)] + ROOM_WORDS, len(net[3]))
            net = with_guards(net, [(name, *guard[1:]) for name, guard in zip(names, net[3])])
            self.assert_as_guards(net)
        for sign in "abcdefghijklmnopqrstuvwxyz":
            for start in (0, 1, 8):
                guards = [(f"{sign}{at + start}", *EXAMPLE[3][0][1:]) for at in range(16)]
                self.assert_as_guards(with_guards(EXAMPLE, guards))


if __name__ == "__main__":
    unittest.main()
