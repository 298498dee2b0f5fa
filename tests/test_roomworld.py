"""[25] and [26] The world of a room: cases, standings, ticks and ends."""

import random
import unittest
from itertools import product

import apart
from apartrooms import MOST_ENDS, RoomFault, beginning_of, cases_of
from drawn import hazy_net, kept_net, pair, spoiled_net, wild_net
from drawnrooms import guards_room, standing_of, wild_room
from justthepart.rooms import as_room, check_room
from justthepart.roomworld import RoomWorld, cases, room_beginning, room_may_open
from justthepart.seeing import Seen
from roomsamples import FULL, NOTHING, room_with
from samples import EXAMPLE, KINDS, VILLAGE, faults_of, with_guards, with_rules

AB0, AB1, G = ("ab", 0), ("ab", 1), ("g", 0)
FAULT = ("line", "ab")
HALF = (1, 2)
LASTS = (None, False)
PASSES = (None, True)

# With a fault in the middle of ab 1/8 flows into ab.0: so p1 and p2 see perhaps, y surely, n nothing.
HAZY = with_rules(with_guards(EXAMPLE, [("p1", ("over", AB0, (1, 8), False), 9, (G,)), ("p2", ("over", G, (1, 8), False), 9, (G,)),
                                        ("y", ("difference", "ab", (1, 1000)), 9, (G,)), ("n", ("over", AB0, (9, 1), False), 9, (G,)),
                                        ("f", ("behind", AB0), 9, (G,))]), least=1, most=2)


def world(room, net=HAZY, case=LASTS, fault=FAULT, place=HALF):
    """Return the world of a room that is one."""
    check_room(net, room)
    return RoomWorld(net, room, Seen(net, fault, place), case)


def standing(room, opened=(), cells=None, pasts=None, ages=(), still=0):
    """Return a standing like the beginning but for some parts."""
    start = beginning_of(room)
    return (opened, start[1] if cells is None else cells, start[2] if pasts is None else pasts, ages, still)


def played(what, *signals):
    """Return what a let tells on six ticks of signals x1, x2 and so on, what it keeps, and the last standing."""
    channels = tuple((f"c{at}", 6, 6) for at in range(len(signals) + 1))
    lets = [(f"x{at}", ("got", f"c{at}")) for at in range(1, len(signals) + 1)] + [("told", what)]
    room = room_with(lets, channels, (("c0", "told"),))
    here = world(room)
    now = standing(room, pasts=((0,) * 6, *(tuple(signal[::-1]) for signal in signals)))
    kept = []
    for _ in range(6):
        now, = here.followers(now)
        kept.append(now[1][-1])
    return list(now[2][0][::-1]), kept


class Cases(unittest.TestCase):
    def test_cases(self):
        lasting = [None] + [("guard", name) for name in ("d1", "d2", "f0", "e1", "e2", "z1", "z2")]
        channels = [("channel", "c1"), ("channel", "c2")]
        breakers = [("breaker", AB0), ("breaker", AB1)]
        self.assertEqual(cases(EXAMPLE, NOTHING), [(one, False) for one in lasting + breakers])
        wanted = lasting + channels + breakers
        self.assertEqual(cases(EXAMPLE, FULL), [(one, False) for one in wanted] + [(one, True) for one in wanted])
        self.assertEqual(cases(EXAMPLE, (*FULL[:5], 0)), [(one, False) for one in wanted])
        self.assertEqual(cases(VILLAGE, room_with(gone=1)), [(one, is_passing) for is_passing in (False, True)
                                                             for one in (None, ("guard", "e1"), ("guard", "e2"))])
        self.assertEqual([type(case[1]) for case in cases(EXAMPLE, FULL)], [bool] * 24)
        # Channels in their order, whatever they are called.
        room = room_with(channels=(("z", 1, 1), ("c", 1, 1)))
        self.assertEqual(cases(VILLAGE, room)[3:], [(("channel", "z"), False), (("channel", "c"), False)])

    def test_beginnings(self):
        self.assertEqual(room_beginning(NOTHING), ((), (), (), (), 0))
        self.assertEqual(room_beginning(FULL), ((), (0, 0, 0, (0, 0), 0, 0, 0, (0, 0), 0), ((0,) * 6, (0, 0)), (), 0))
        self.assertEqual(room_beginning(as_room(EXAMPLE)), ((), ((0, 0),) * 7, (), (), 0))


class Lets(unittest.TestCase):
    def assert_played(self, what, wanted, *signals):
        self.assertEqual(played(what, *signals)[0], wanted)

    def test_and_or_not(self):
        one, two = [0, 0, 1, 1, 0, 1], [0, 1, 0, 1, 1, 1]
        self.assert_played(("and", ("x1", "x2")), [0, 0, 0, 1, 0, 1], one, two)
        self.assert_played(("or", ("x1", "x2")), [0, 1, 1, 1, 1, 1], one, two)
        self.assert_played(("not", "x1"), [1, 1, 0, 0, 1, 0], one, two)
        for kind in ("and", "or"):
            self.assert_played((kind, ("x2",)), two, one, two)
            self.assert_played((kind, ("x2", "x2")), two, one, two)
        self.assert_played(("and", ("x1", "x2", "x3")), [0, 0, 0, 0, 0, 1], one, two, [1, 1, 1, 0, 1, 1])

    def test_timers(self):
        for on, off, signal, wanted in ((0, 0, [0, 1, 1, 0, 1, 0], [0, 1, 1, 0, 1, 0]), (2, 0, [1, 1, 1, 1, 0, 1], [0, 0, 1, 1, 0, 0]),
                                        (0, 2, [1, 0, 0, 0, 1, 0], [1, 1, 1, 0, 1, 1]), (1, 2, [1, 1, 0, 0, 0, 0], [0, 1, 1, 1, 0, 0]),
                                        (1, 3, [1, 1, 0, 1, 0, 0], [0, 1, 1, 1, 1, 0]), (1, 1, [1, 1, 1, 0, 0, 1], [0, 1, 1, 1, 0, 0]),
                                        (1, 1, [1, 1, 0, 1, 1, 0], [0, 1, 1, 0, 1, 1]), (2, 4, [1, 1, 1, 0, 0, 0], [0, 0, 1, 1, 1, 1]),
                                        (5, 0, [1] * 6, [0] * 5 + [1]), (6, 0, [1] * 6, [0] * 6), (20, 20, [1] * 6, [0] * 6)):
            self.assert_played(("timer", "x1", on, off), wanted, signal)

    def test_what_timers_keep(self):
        self.assertEqual(played(("timer", "x1", 1, 3), [1, 1, 0, 1, 0, 0])[1], [(1, 0), (2, 3), (0, 2), (1, 1), (0, 0), (0, 0)])
        # Held is counted to on + 1, and left is off as long as it is held so long.
        self.assertEqual(played(("timer", "x1", 2, 5), [1] * 6)[1], [(1, 0), (2, 0)] + [(3, 5)] * 4)
        self.assertEqual(played(("timer", "x1", 0, 0), [1, 1, 0, 1, 0, 0])[1], [(1, 0), (1, 0), (0, 0), (1, 0), (0, 0), (0, 0)])

    def test_latches(self):
        self.assert_played(("latch", "x1", "x2"), [0, 1, 1, 0, 0, 1], [0, 1, 0, 0, 0, 1], [0, 0, 0, 1, 0, 0])
        # Both at once: 0.
        self.assert_played(("latch", "x1", "x2"), [1, 0, 0, 1, 0, 1], [1, 1, 0, 1, 1, 1], [0, 1, 0, 0, 1, 0])
        self.assert_played(("latch", "x1", "x1"), [0] * 6, [0, 1, 0, 1, 1, 0])
        self.assertEqual(played(("latch", "x1", "x2"), [0, 1, 0, 0, 0, 1], [0, 0, 0, 1, 0, 0])[1], [0, 1, 1, 0, 0, 1])

    def test_others_keep_nothing(self):
        for what in (("and", ("x1",)), ("or", ("x1",)), ("not", "x1"), ("got", "c1")):
            self.assertEqual(played(what, [1, 0, 1, 0, 1, 1])[1], [0] * 6)

    def test_lets_ask_lets_ahead(self):
        # All on one tick, in their order.
        room = room_with([("a", ("not", "n")), ("b", ("and", ("a", "y"))), ("c", ("timer", "b", 0, 0)), ("d", ("latch", "c", "n")),
                          ("e", ("or", ("d", "n")))], orders=((AB0, "e"),))
        self.assertEqual(world(room).followers(standing(room)), [((), (0, 0, (1, 0), 1, 0), (), ((AB0, 0),), 0)])

    def test_open_tells_of_breakers_ahead_of_the_tick(self):
        room = room_with([("x", ("open", AB0)), ("z", ("open", G))], (("c", 1, 1), ("d", 1, 1)), (("c", "x"), ("d", "z")))
        here = world(room)
        for opened, wanted in (((), ((0,), (0,))), ((AB0,), ((1,), (0,))), ((G,), ((0,), (1,))), ((AB0, G), ((1,), (1,))), ((AB1,), ((0,), (0,)))):
            self.assertEqual(here.followers(standing(room, opened)), [(opened, (0, 0), wanted, (), 0)])
        # One that opens on the tick was not open ahead of it.
        found = here.followers(standing(room, ages=((AB0, 1),)))
        self.assertEqual(found, [((AB0,), (0, 0), ((0,), (0,)), (), 0)])


class Eyes(unittest.TestCase):
    def test_perhaps_goes_both_ways(self):
        room = room_with([("a", ("timer", "p1", 3, 0)), ("b", ("timer", "p2", 3, 0)), ("c", ("timer", "y", 3, 0)), ("d", ("timer", "n", 3, 0))])
        found = world(room).followers(standing(room))
        self.assertEqual(found, [((), ((one, 0), (two, 0), (1, 0), (0, 0)), (), (), 0) for one, two in product((0, 1), (0, 1))])

    def test_choices_that_come_to_the_same(self):
        room = room_with([("a", ("or", ("p1", "p2", "y"))), ("b", ("timer", "a", 2, 0))])
        self.assertEqual(len(world(room).followers(standing(room))), 1)
        room = room_with([("a", ("or", ("p1", "p2")))], orders=((G, "a"),))
        self.assertEqual(world(room).followers(standing(room)), [((), (0,), (), (), 0), ((), (0,), (), ((G, 0),), 0)])
        # An eye is one eye, wherever it is asked.
        room = room_with([("a", ("not", "p1")), ("b", ("and", ("a", "p1")))], orders=((G, "b"),))
        self.assertEqual(len(world(room).followers(standing(room))), 1)

    def test_many_that_see_perhaps(self):
        net = with_guards(EXAMPLE, [(f"q{at}", ("over", AB0, (1, 8), False), 0, (G,)) for at in range(14)])
        some = tuple(f"q{at}" for at in range(14))
        room = room_with([("a", ("or", some)), ("b", ("and", some)), ("c", ("timer", "a", 1, 0)), ("d", ("timer", "b", 1, 0))])
        cells = [then[1] for then in world(room, net).followers(standing(room))]
        self.assertEqual(cells, [(0, 0, (0, 0), (0, 0)), (0, 0, (1, 0), (0, 0)), (0, 0, (1, 0), (1, 0))])
        room = room_with([(f"t{at}", ("timer", f"q{at}", 1, 0)) for at in range(12)])
        self.assertEqual(len(world(room, net).followers(standing(room))), 2 ** 12)

    def test_a_failing_eye(self):
        room = room_with([("a", ("timer", "y", 3, 0)), ("b", ("timer", "p1", 3, 0))])
        self.assertEqual([then[1] for then in world(room, case=(("guard", "y"), False)).followers(standing(room))],
                         [((0, 0), (0, 0)), ((0, 0), (1, 0))])
        self.assertEqual([then[1] for then in world(room, case=(("guard", "p1"), False)).followers(standing(room))], [((1, 0), (0, 0))])

    def test_behind_a_breaker(self):
        room = room_with([("a", ("timer", "f", 3, 0))])
        here = world(room)
        # It must be ordered, shut, and carry a current, ahead of the tick.
        for opened, ages, wanted in (((), (), 0), ((), ((AB0, 0),), 1), ((), ((AB1, 0),), 0), ((G,), ((AB0, 0),), 0), ((AB0,), (), 0)):
            self.assertEqual({then[1] for then in here.followers(standing(room, opened, ages=ages))}, {((wanted, 0),)})
        room = room_with([("a", ("timer", "f", 3, 0))], orders=((AB0, "y"),))
        self.assertEqual(world(room).followers(standing(room)), [((), ((0, 0),), (), ((AB0, 0),), 0)])

    def test_guards_delays_and_opens_count_for_nothing(self):
        other = with_guards(HAZY, [(name, told, 0, (AB0, AB1)) for name, told, _, _ in HAZY[3]])
        room = room_with([("a", ("timer", "y", 1, 0))], orders=((AB1, "a"),))
        for now in (standing(room), standing(room, cells=((1, 0),))):
            self.assertEqual(world(room, other).followers(now), world(room).followers(now))


class Channels(unittest.TestCase):
    def test_what_is_brought(self):
        for least, most in ((1, 1), (1, 3), (2, 2), (2, 3), (3, 3), (2, 6), (6, 6)):
            room = room_with([("x", ("got", "c")), ("t", ("timer", "x", 1, 0))], (("c", least, most),), (("c", "y"),))
            here = world(room)
            for past in product((0, 1), repeat=most):
                found = here.followers(standing(room, pasts=(past,)))
                bits = sorted(set(past[least - 1:most]))
                self.assertEqual(found, [((), (0, (bit, 0)), ((1, *past[:-1]),), (), 0) for bit in bits])

    def test_unlike_for_unlike_channels(self):
        room = room_with([("x", ("got", "c")), ("z", ("got", "d")), ("s", ("timer", "x", 1, 0)), ("t", ("timer", "z", 1, 0))],
                         (("c", 1, 2), ("d", 1, 2)))
        found = world(room).followers(standing(room, pasts=((0, 1), (1, 0))))
        self.assertEqual([then[1][2:] for then in found], [((one, 0), (two, 0)) for one, two in product((0, 1), (0, 1))])
        self.assertEqual({then[2] for then in found}, {((0, 0), (0, 1))})
        # A channel brings one and the same to all that ask for it.
        room = room_with([("x", ("got", "c")), ("z", ("got", "c")), ("m", ("not", "z")), ("a", ("and", ("x", "m"))), ("t", ("timer", "a", 1, 0))],
                         (("c", 1, 2),))
        self.assertEqual(len(world(room).followers(standing(room, pasts=((0, 1),)))), 1)

    def test_a_failing_channel(self):
        room = room_with([("x", ("got", "c")), ("z", ("got", "d")), ("s", ("timer", "x", 1, 0)), ("t", ("timer", "z", 1, 0))],
                         (("c", 1, 2), ("d", 1, 1)), (("c", "y"), ("d", "y")))
        now = standing(room, pasts=((1, 1), (1,)))
        self.assertEqual(world(room, case=(("channel", "c"), False)).followers(now), [((), (0, 0, (0, 0), (1, 0)), ((1, 1), (1,)), (), 0)])
        self.assertEqual(world(room, case=(("channel", "d"), False)).followers(now), [((), (0, 0, (1, 0), (0, 0)), ((1, 1), (1,)), (), 0)])

    def test_what_is_sent(self):
        # An eye, a let, nothing; what is brought and sent on one tick does not mix.
        room = room_with([("x", ("got", "c")), ("n1", ("not", "x"))], (("c", 1, 1), ("d", 1, 3), ("e", 2, 2)), (("c", "n1"), ("d", "p1")))
        found = world(room).followers(standing(room, pasts=((1,), (0, 1, 0), (1, 1))))
        self.assertEqual(found, [((), (0, 0), ((0,), (bit, 0, 1), (0, 1)), (), 0) for bit in (0, 1)])
        found = world(room).followers(standing(room, pasts=((0,), (0, 1, 0), (0, 1))))
        self.assertEqual(found, [((), (0, 0), ((1,), (bit, 0, 1), (0, 0)), (), 0) for bit in (0, 1)])


class Breakers(unittest.TestCase):
    def test_orders(self):
        room = room_with(orders=((AB0, "n"), (AB0, "y"), (AB1, "n"), (G, "y")))
        here = world(room)
        self.assertEqual(here.followers(standing(room)), [((), (), (), ((AB0, 0), (G, 0)), 0)])
        # Not one that is open, and not one that was ordered.
        self.assertEqual(here.followers(standing(room, ages=((AB0, 0),))), [((), (), (), ((AB0, 1), (G, 0)), 0), ((AB0,), (), (), ((G, 0),), 0)])
        both = (("a", "b"), HAZY[1], (("g", "a", 3), ("h", "b", 3)), *HAZY[3:])
        self.assertEqual(world(room, both).followers(standing(room, (AB0,))), [((AB0,), (), (), ((G, 0),), 0)])

    def test_a_failing_breaker(self):
        room = room_with(orders=((AB0, "y"),))
        here = world(room, case=(("breaker", AB0), False))
        for ages, wanted in (((), 0), (((AB0, 0),), 1), (((AB0, 1),), 2), (((AB0, 2),), 2)):
            self.assertEqual(here.followers(standing(room, ages=ages)), [((), (), (), ((AB0, wanted),), 0)])

    def test_opening(self):
        net = with_rules(HAZY, least=2, most=4)
        for age, wanted in ((0, [1]), (1, [2, None]), (2, [3, None]), (3, [None]), (9, [None])):
            found = world(NOTHING, net).followers(standing(NOTHING, ages=((AB0, age),)))
            self.assertEqual(found, [((), (), (), ((AB0, old),), 0) if old else ((AB0,), (), (), (), 0) for old in wanted])

    def test_shuts(self):
        room = room_with(orders=((AB0, "n"), (AB1, "p1")), shuts=((AB0, "y"), (AB1, "y"), (G, "n")))
        both = (("a", "b"), HAZY[1], (("g", "a", 3), ("h", "b", 3)), *HAZY[3:])
        here = world(room, both)
        self.assertEqual(here.followers(standing(room, (AB0,)))[0], ((), (), (), (), 0))
        # What tells nothing shuts nothing, and what is ordered as well stays open.
        self.assertEqual({then[0] for then in here.followers(standing(room, (G,)))}, {(G,)})
        room = room_with(orders=((AB0, "y"),), shuts=((AB0, "y"),))
        self.assertEqual(world(room, both).followers(standing(room, (AB0,))), [((AB0,), (), (), (), 0)])
        # What is shut again may be ordered anew on the next tick; one that is shut, or ordered, is left alone.
        room = room_with([("x", ("open", AB0)), ("z", ("not", "x"))], orders=((AB0, "z"),), shuts=((AB0, "x"), (AB1, "x")))
        here = world(room)
        self.assertEqual(here.followers(standing(room, (AB0,))), [((), (0, 0), (), (), 0)])
        self.assertEqual(here.followers(standing(room)), [((), (0, 0), (), ((AB0, 0),), 0)])
        self.assertEqual(here.followers(standing(room, (AB0,), ages=((AB1, 1),))), [((AB1,), (0, 0), (), (), 0)])

    def test_perhaps_shut_perhaps_not(self):
        room = room_with([("x", ("open", AB1)), ("z", ("not", "p1"))], orders=((AB1, "z"),), shuts=((AB1, "x"),))
        found = world(room).followers(standing(room, (AB1,)))
        self.assertEqual([then[0] for then in found], [(), (AB1,)])

    def test_a_breaker_that_is_shut_on_the_tick_another_one_opens(self):
        room = room_with([("x", ("open", G))], shuts=((G, "x"),))
        found = world(room).followers(standing(room, (G,), ages=((AB0, 0), (AB1, 1))))
        self.assertEqual([(then[0], then[3]) for then in found], [((AB0, AB1), ()), ((AB1,), ((AB0, 1),))])


class Passing(unittest.TestCase):
    def test_stillness(self):
        room = room_with(gone=3)
        here = world(room, case=PASSES)
        for opened, still, wanted in (((), 0, 0), ((), 2, 0), ((AB0,), 0, 1), ((AB0,), 1, 2), ((AB0,), 2, 3), ((G,), 2, 3), ((AB1,), 2, 0),
                                      ((AB0,), 3, 3), ((), 3, 3), ((AB1,), 3, 3)):
            self.assertEqual(here.followers(standing(room, opened, still=still)), [(opened, (), (), (), wanted)])
        # By the topology ahead of the tick, whatever opens on it.
        self.assertEqual([then[4] for then in here.followers(standing(room, ages=((AB0, 1),), still=2))], [0])
        self.assertEqual([then[4] for then in world(room).followers(standing(room, (AB0,)))], [0])

    def test_nothing_is_seen_when_it_is_gone(self):
        room = room_with([("a", ("timer", "y", 3, 0)), ("b", ("timer", "p1", 3, 0)), ("c", ("timer", "f", 3, 0))], gone=1)
        here = world(room, case=PASSES)
        self.assertEqual(len(here.followers(standing(room, ages=((AB0, 0),)))), 4)
        found = here.followers(standing(room, ages=((AB0, 1),), still=1))
        self.assertEqual(found, [((AB0,), ((0, 0),) * 3, (), (), 1)])
        # By the standing ahead of the tick: the one on which it goes is not seen yet.
        room = room_with([("a", ("timer", "y", 3, 0))], shuts=((AB0, "y"),), gone=2)
        here = world(room, case=PASSES)
        self.assertEqual(here.followers(standing(room, (AB0,), still=1)), [((AB0,), ((0, 0),), (), (), 2)])
        self.assertEqual(here.followers(standing(room, still=1)), [((), ((1, 0),), (), (), 0)])

    def test_a_fault_that_lasts(self):
        room = room_with(gone=1)
        for opened in ((), (AB0,), (G,)):
            self.assertEqual(world(room).followers(standing(room, opened)), [(opened, (), (), (), 0)])


class Quiet(unittest.TestCase):
    def assert_quiet(self, room, now, wanted, **more):
        here = world(room, **more)
        self.assertIs(here.is_quiet(now), wanted)
        # What was found of others does not change it.
        for then in here.followers(now):
            here.is_quiet(then)
        self.assertIs(here.is_quiet(now), wanted)

    def test_nothing_can_change(self):
        self.assert_quiet(NOTHING, standing(NOTHING), True)
        self.assert_quiet(NOTHING, standing(NOTHING, (AB0, G)), True)
        self.assert_quiet(FULL[:3] + ((), (), 3), standing(FULL, (AB0,)), True, net=EXAMPLE)

    def test_breakers_that_will_open_or_shut(self):
        self.assert_quiet(NOTHING, standing(NOTHING, ages=((AB0, 0),)), False)
        self.assert_quiet(NOTHING, standing(NOTHING, ages=((AB0, 0),)), True, case=(("breaker", AB0), False))
        self.assert_quiet(NOTHING, standing(NOTHING, ages=((AB1, 0),)), False, case=(("breaker", AB0), False))
        room = room_with(orders=((G, "y"),))
        self.assert_quiet(room, standing(room), False)
        self.assert_quiet(room, standing(room), True, case=(("guard", "y"), False))
        self.assert_quiet(room, standing(room, (AB0,)), True)
        # Perhaps only, but that is enough.
        room = room_with(orders=((G, "p1"),))
        self.assert_quiet(room, standing(room), False)
        room = room_with([("x", ("open", G))], shuts=((G, "x"),))
        self.assert_quiet(room, standing(room), True)
        self.assert_quiet(room, standing(room, (G,)), False)

    def test_what_counts_on_inside(self):
        # A timer that runs out, a latch, a channel under way: each will order or shut something.
        room = room_with([("x", ("timer", "n", 0, 20)), ("m", ("not", "x"))], orders=((G, "m"),))
        self.assert_quiet(room, standing(room, cells=((0, 20), 0)), False)
        room = room_with([("x", ("timer", "n", 0, 20)), ("m", ("not", "x"))], (("c", 1, 1),), (("c", "m"),))
        self.assert_quiet(room, standing(room, cells=((0, 20), 0)), True)
        room = room_with([("x", ("latch", "n", "n")), ("t", ("timer", "x", 5, 0))], orders=((G, "t"),))
        self.assert_quiet(room, standing(room, cells=(0, (5, 0))), True)
        self.assert_quiet(room, standing(room, cells=(1, (0, 0))), False)
        room = room_with([("x", ("got", "c"))], (("c", 3, 6),), orders=((G, "x"),))
        self.assert_quiet(room, standing(room), True)
        for at in range(6):
            past = tuple(int(at == other) for other in range(6))
            self.assert_quiet(room, standing(room, pasts=(past,)), False)
            self.assert_quiet(room, standing(room, pasts=(past,)), True, case=(("channel", "c"), False))
            self.assert_quiet((*room[:3], (), room[3], 0), standing(room, (G,), pasts=(past,)), False)

    def test_stillness_that_counts_on(self):
        room = room_with([("x", ("not", "f"))], shuts=((AB0, "n"),), gone=5)
        self.assert_quiet(room, standing(room, (AB0,)), True, case=PASSES)
        # As long as a current flows y sees it; it is shut again once y tells nothing any more.
        room = room_with([("x", ("not", "y")), ("t", ("timer", "x", 2, 0))], orders=((AB0, "y"),), shuts=((AB0, "t"),), gone=2)
        self.assert_quiet(room, standing(room, still=2), True, case=PASSES)
        self.assert_quiet(room, standing(room, still=1), False, case=PASSES)
        self.assert_quiet(room, standing(room, (AB0,), still=2), False, case=PASSES)

    def test_rooms_that_swing(self):
        room = room_with([("x", ("got", "c")), ("m", ("not", "x"))], (("c", 3, 3),), (("c", "m"),))
        self.assert_quiet(room, standing(room), True)
        room = (*room[:3], ((G, "m"),), (), 0)
        self.assert_quiet(room, standing(room), False)
        # It orders what does not open, or shuts what is shut, for ever.
        self.assert_quiet(room, standing(room, (G,)), True)
        self.assert_quiet((*room[:3], ((AB0, "m"),), ((AB1, "m"),), 0), standing(room), True, case=(("breaker", AB0), False))

    def test_a_thousand_standings(self):
        # Registers that run through 31, 10 and 6 standings, all in all through 930 of them; a chain of timers runs out ahead.
        channels = (("c0", 5, 5), ("c1", 2, 2), ("c2", 5, 5), ("c3", 3, 3))
        lets = [("a", ("got", "c0")), ("b", ("got", "c1")), ("any", ("or", ("a", "b"))), ("all", ("and", ("a", "b"))), ("nor", ("not", "all")),
                ("xor", ("and", ("any", "nor"))), ("c", ("got", "c2")), ("nc", ("not", "c")), ("d", ("got", "c3")), ("nd", ("not", "d"))]
        lets += [(f"t{at}", ("timer", "n" if at == 0 else f"t{at - 1}", 0, 20)) for at in range(5)]
        room = room_with(lets, channels, (("c0", "xor"), ("c1", "xor"), ("c2", "nc"), ("c3", "nd")))
        cells = (0,) * 10 + ((0, 20),) + ((0, 0),) * 4
        now = standing(room, cells=cells, pasts=((1, 0, 1, 1, 0), (1, 0), (0,) * 5, (0,) * 3))
        here = RoomFault(HAZY, room, FAULT, HALF, LASTS)
        path = [now]
        known = {now: 0}
        while True:
            then, = here.followers(path[-1])
            if then in known:
                break
            known[then] = len(path)
            path.append(then)
        self.assertGreater(len(path), MOST_ENDS + 10)
        self.assertLess(known[then], len(path) - 900)
        for many, wanted in ((1000, True), (1001, False), (1002, False), (999, True), (990, True), (1010, False)):
            self.assert_quiet(room, path[len(path) - many], wanted)
        # Asked one after the other, from the last one on and from the first one on.
        for rows in (path, path[::-1]):
            one = world(room)
            for now in rows[::7]:
                self.assertIs(one.is_quiet(now), len(path) - known[now] <= MOST_ENDS)

    def test_very_many(self):
        # Two channels that bring this or that run through thousands of standings.
        room = room_with([("x", ("got", "c")), ("m", ("not", "x")), ("z", ("got", "d")), ("k", ("not", "z"))], (("c", 1, 6), ("d", 1, 6)),
                         (("c", "m"), ("d", "k")))
        self.assert_quiet(room, standing(room), False)
        less = (room[0][:1], room[1][:2], room[2][:1], (), (), 0)
        self.assert_quiet(less, standing(less), True)


class Ends(unittest.TestCase):
    def test_a_guard_and_all_that_hangs_on_it(self):
        at_a, at_b = {AB0, AB1, ("twin", 0), ("twin", 1), G}, {AB0, AB1, ("twin", 0), ("twin", 1), ("bc", 0), ("bc", 1)}
        at_c = {("bc", 0), ("bc", 1), ("h", 0)}
        fault, own = ("line", "ab"), {AB0, AB1}
        failing = ("guard", "q1")

        def may(lets=(), channels=(), sends=(), orders=(), what=failing, shuts=()):
            """Return what may be open, as a set."""
            room = room_with(lets, channels, sends, orders, shuts)
            check_room(KINDS, room)
            return set(room_may_open(KINDS, room, fault, what))

        to_h = ((("h", 0), "x"),)
        self.assertEqual(may(), own)
        self.assertEqual(may(orders=((("h", 0), "q1"),)), own | at_c)
        self.assertEqual(may(orders=((("h", 0), "q2"),)), own)
        self.assertEqual(may(orders=((("bc", 0), "q1"),)), own | at_b)
        self.assertEqual(may(orders=((("bc", 0), "q1"), (G, "q1"))), own | at_b | at_a)
        # What it shuts does not count, and what the guard itself opens neither.
        self.assertEqual(may(shuts=((("h", 0), "q1"),)), own)
        for what in (("and", ("q2", "q1")), ("or", ("q1", "q2")), ("not", "q1"), ("timer", "q1", 1, 1), ("latch", "q1", "q2"), ("latch", "q2", "q1")):
            self.assertEqual(may([("x", what)], orders=to_h), own | at_c)
            self.assertEqual(may([("x", what)], orders=to_h, what=("guard", "q3")), own)
        for what in (("open", AB0), ("and", ("q2",)), ("timer", "q2", 0, 0), ("got", "c")):
            self.assertEqual(may([("x", what)], (("c", 1, 1),), orders=to_h), own)
        # Several steps far, and through channels, also to a let ahead.
        chain = [("r", ("not", "q1")), ("s", ("timer", "r", 1, 1)), ("t", ("or", ("q9", "s"))), ("x", ("latch", "q8", "t"))]
        self.assertEqual(may(chain, orders=to_h), own | at_c)
        lets = [("x", ("got", "c")), ("y", ("got", "d")), ("z", ("not", "y"))]
        channels, sends = (("c", 1, 1), ("d", 1, 2)), (("c", "z"), ("d", "q1"))
        self.assertEqual(may(lets, channels, sends, to_h), own | at_c)
        self.assertEqual(may(lets, channels, sends[:1], to_h), own)
        self.assertEqual(may(lets, channels, (("c", "q1"),), to_h), own | at_c)
        # A failing channel lets no more be open than nothing does; a failing breaker as without a room.
        for channel in ("c", "d"):
            self.assertEqual(may(lets, channels, sends, to_h, ("channel", channel)), own)
        self.assertEqual(may(lets, channels, sends, to_h, None), own)
        self.assertEqual(may(lets, channels, sends, to_h, ("breaker", AB0)), at_a)
        self.assertEqual(may(lets, channels, sends, to_h, ("breaker", AB1)), at_b)
        self.assertEqual(may(lets, channels, sends, to_h, ("breaker", ("bc", 0))), own)

    def assert_right(self, room, now, wanted, **more):
        self.assertIs(world(room, **more).is_right(now), wanted)

    def test_faults_that_last(self):
        room = room_with(gone=2)
        for opened, wanted in (((), False), ((AB0,), True), ((AB1,), False), ((AB0, AB1), True), ((G,), False), ((AB0, G), False)):
            self.assert_right(room, standing(room, opened), wanted)
        # Quiet it must be, too.
        self.assert_right(room, standing(room, (AB0,), ages=((AB1, 0),)), False)
        self.assert_right(room, standing(room, (AB0,), ages=((AB1, 0),)), True, case=(("breaker", AB1), False))
        self.assert_right(room, standing(room, (AB0,), ages=((G, 0),)), False, case=(("breaker", AB1), False))
        swing = room_with([("x", ("got", "c")), ("m", ("not", "x"))], (("c", 3, 3),), (("c", "m"),))
        self.assert_right(swing, standing(swing, (AB0,)), True)
        # With something failing more may be open.
        room = room_with(orders=((AB0, "y"),))
        for failing, wanted in ((None, False), (("guard", "y"), True), (("guard", "p1"), False), (("breaker", AB0), True), (("breaker", AB1), False)):
            self.assert_right(room, standing(room, (AB1, G)), wanted, case=(failing, False))

    def test_faults_that_pass(self):
        room = room_with([("x", ("not", "n"))], orders=((AB0, "y"),), gone=2)
        for opened, still, wanted in (((), 2, True), ((), 1, False), ((), 0, False), ((AB0,), 2, False), ((AB0, AB1), 2, False), ((G,), 2, False)):
            self.assert_right(room, standing(room, opened, still=still), wanted, case=PASSES)
        # With something failing such breakers may be open as may be then; but gone it must be.
        for failing, opened, still, wanted in ((("guard", "y"), (AB0,), 2, True), (("guard", "y"), (AB0, G), 2, True), (("guard", "y"), (), 2, True),
                                               (("guard", "n"), (AB0,), 2, True), (("guard", "n"), (G,), 2, False), (("guard", "n"), (AB0,), 1, False),
                                               (("breaker", AB0), (G,), 2, True), (("breaker", AB1), (G,), 2, False),
                                               (("breaker", AB0), (), 0, False)):
            self.assert_right(room, standing(room, opened, still=still), wanted, case=(failing, True))
        # Ordered ones open still, gone or not.
        self.assert_right(room, standing(room, ages=((AB0, 0),), still=2), False, case=PASSES)
        self.assert_right(room, standing(room, ages=((AB0, 0),), still=2), True, case=(("breaker", AB0), True))
        room = room_with([("x", ("got", "c"))], (("c", 1, 1),), orders=((AB0, "x"),), gone=1)
        self.assert_right(room, standing(room, pasts=((1,),), still=1), False, case=PASSES)
        self.assert_right(room, standing(room, (AB0,), still=1), False, case=PASSES)
        self.assert_right(room, standing(room, (AB0,), still=1), True, case=(("channel", "c"), True))
        self.assert_right(room, standing(room, (G,), still=1), False, case=(("channel", "c"), True))


class Drawn(unittest.TestCase):
    def assert_ticks(self, draw, here, net, room, fault, place, case):
        """Assert that all is as the rules tell, some ticks far, and at standings to which no run may come."""
        one = RoomWorld(net, room, Seen(net, fault, place), case)
        self.assertEqual(set(room_may_open(net, room, fault, case[0])), here.allowed())
        todo = [room_beginning(room)]
        self.assertEqual(todo, [beginning_of(room)])
        for _ in range(7):
            behind = []
            for now in draw.sample(todo, min(3, len(todo))):
                found = one.followers(now)
                self.assertIs(type(found), list)
                self.assertEqual(found, sorted(here.followers(now)))
                self.kinds["several"] += len(found) > 1
                self.kinds["many"] += len(found) > 8
                behind += found
            todo = sorted(set(behind))
        for now in draw.sample(todo, min(2, len(todo))) + [standing_of(draw, net, room) for _ in range(3)]:
            if case[1]:
                now = (*now[:4], draw.randint(0, room[5]))
            self.assertEqual(one.followers(now), sorted(here.followers(now)))
            self.assertIs(one.is_quiet(now), here.is_quiet(now))
            self.assertIs(one.is_right(now), here.is_right(now))
            self.kinds["quiet"] += one.is_quiet(now)
            self.kinds["right"] += one.is_right(now)
            self.kinds["passing"] += case[1]

    def test_as_the_rules_tell(self):
        draw = random.Random(91)
        self.kinds = {"several": 0, "many": 0, "quiet": 0, "right": 0, "passing": 0}
        for _ in range(400):
            net = draw.choice((wild_net, hazy_net, hazy_net, kept_net, spoiled_net))(draw)
            room = draw.choice((wild_room, wild_room, guards_room))(draw, net)
            check_room(net, room)
            self.assertEqual(cases(net, room), cases_of(net, room))
            fault = draw.choice(faults_of(net))
            place = None if fault[0] == "bus" else pair(draw.randint(1, 19), 20)
            there = apart.Fault(net, fault, place)
            for case in draw.choices(cases_of(net, room), k=3):
                self.assert_ticks(draw, RoomFault(net, room, fault, place, case, there), net, room, fault, place, case)
        self.assertTrue(all(many > 30 for many in self.kinds.values()), self.kinds)

    def test_what_is_returned_is_the_callers_own(self):
        room = room_with([("x", ("timer", "p1", 1, 1))], orders=((AB0, "x"),))
        here = world(room)
        for now in (standing(room), here.followers(standing(room))[-1]):
            told = here.followers(now)
            whole = list(told)
            told.clear()
            self.assertEqual(here.followers(now), whole)
            self.assertIs(here.is_quiet(now), False)
        room_may_open(HAZY, room, FAULT, None).clear()
        self.assertEqual(set(room_may_open(HAZY, room, FAULT, None)), {AB0, AB1})
        cases(HAZY, room).clear()
        self.assertEqual(len(cases(HAZY, room)), 8)


if __name__ == "__main__":
    unittest.main()
