"""[5] What is a net."""

import unittest

from justthepart.errors import BadNet, GuardError
from justthepart.nets import check_net, is_net
from samples import EXAMPLE, KINDS, VILLAGE, Awkward, at_path, changed, paths_of, strange_things

BUSES = ("a", "b")
LINES = (("ab", "a", "b", 10),)
SOURCES = (("g", "a", 3),)
RULES = ((1, 10), 1, 2, 10)


def guard(told=("behind", ("ab", 0)), delay=0, opens=(("ab", 0),), name="q"):
    """Return a net with one guard."""
    return (BUSES, LINES, SOURCES, ((name, told, delay, opens),), RULES)


def rules(error=(1, 10), least=1, most=2, ticks=10):
    """Return a net with other rules."""
    return (BUSES, LINES, SOURCES, (), (error, least, most, ticks))


class Nets(unittest.TestCase):
    def assert_net(self, *nets):
        for net in nets:
            self.assertIsNone(check_net(net))
            self.assertIs(is_net(net), True)

    def assert_none(self, *things):
        for thing in things:
            self.assertIs(is_net(thing), False)
            with self.assertRaises(BadNet) as caught:
                check_net(thing)
            self.assertIsInstance(caught.exception, GuardError)
            self.assertTrue(hasattr(caught.exception, "name") and hasattr(caught.exception, "why"))

    def test_samples(self):
        self.assert_net(EXAMPLE, KINDS, VILLAGE)

    def test_anything(self):
        self.assert_none(*strange_things())

    def test_anything_anywhere(self):
        things = [None, True, 1.0, 10 ** 5000, -1, "", "A", b"a", (), [], {}, Awkward(), (Awkward(),), ("zz", 0)]
        for net in (EXAMPLE, KINDS):
            for path in paths_of(net):
                for thing in things:
                    # Without guards it still is a net, and any guard over may look forward.
                    is_still = path == (3,) and thing is things[8] or isinstance(at_path(net, path), bool)
                    if not (is_still and isinstance(thing, (bool, tuple))):
                        self.assert_none(changed(net, path, thing))

    def test_another_name_anywhere(self):
        for net in (EXAMPLE, KINDS):
            for path in paths_of(net):
                # Nothing else tells the names of guards, and of the bus without a line.
                is_free = len(path) == 3 and path[0] == 3 and path[2] == 0 or at_path(net, path) == "lone"
                if is_free:
                    self.assert_net(changed(net, path, "zz"))
                else:
                    self.assert_none(changed(net, path, "zz"))

    def test_a_list_in_the_place_of_a_tuple(self):
        for net in (EXAMPLE, KINDS, VILLAGE):
            for path in paths_of(net):
                if isinstance(at_path(net, path), tuple):
                    self.assert_none(changed(net, path, list(at_path(net, path))))

    def test_tuples_too_short_or_too_long(self):
        for net in (EXAMPLE, KINDS):
            for path in paths_of(net):
                part = at_path(net, path)
                # All but the five lists of things have a length of their own.
                if isinstance(part, tuple) and not (len(path) == 1 and path[0] < 4) and path[2:] != (3,):
                    self.assert_none(changed(net, path, part + (1,)))
                    if not (path[-1:] == (3,) and len(path) == 3):
                        self.assert_none(changed(net, path, part[:-1]))

    def test_bools_in_the_place_of_integers(self):
        for net in (EXAMPLE, KINDS, VILLAGE):
            for path in paths_of(net):
                part = at_path(net, path)
                if isinstance(part, int) and not isinstance(part, bool):
                    self.assert_none(changed(net, path, True), changed(net, path, False))
                    self.assert_none(changed(net, path, float(part)), changed(net, path, str(part)))

    def test_numbers_in_the_place_of_bools(self):
        for is_forward in (True, False):
            self.assert_net(guard(("over", ("ab", 0), (1, 2), is_forward)))
        for thing in (1, 0, None, "True", (), 1.0):
            self.assert_none(guard(("over", ("ab", 0), (1, 2), thing)))

    def test_no_guards_no_lines(self):
        self.assert_net((("a",), (), (("g", "a", 1),), (), RULES))
        self.assert_none(((), (), (), (), RULES), ((), (), (("g", "a", 1),), (), RULES), (("a",), (), (), (), RULES))

    def test_how_many_buses(self):
        names = tuple("abcdefg")
        self.assert_net((names[:6], (), (("s", "a", 1),), (), RULES))
        self.assert_none((names, (), (("s", "a", 1),), (), RULES))

    def test_how_many_lines(self):
        lines = tuple((f"l{n}", "a", "b", 1) for n in range(9))
        self.assert_net((BUSES, lines[:8], SOURCES, (), RULES))
        self.assert_none((BUSES, lines, SOURCES, (), RULES))

    def test_how_many_sources(self):
        sources = tuple((f"s{n}", "a", 1) for n in range(4))
        self.assert_net((BUSES, LINES, sources[:1], (), RULES), (BUSES, LINES, sources[:3], (), RULES))
        self.assert_none((BUSES, LINES, sources, (), RULES), (BUSES, LINES, (), (), RULES))

    def test_how_many_guards(self):
        guards = tuple((f"q{n}", ("behind", ("ab", 0)), 0, (("ab", 0),)) for n in range(17))
        self.assert_net((BUSES, LINES, SOURCES, guards[:16], RULES))
        self.assert_none((BUSES, LINES, SOURCES, guards, RULES))

    def test_resistances(self):
        for resistance in (1, 2, 999, 1000):
            self.assert_net((BUSES, (("ab", "a", "b", resistance),), (("g", "a", resistance),), (), RULES))
        for resistance in (0, -1, 1001, 10 ** 20, True, "1", 1.0, None, (1, 1)):
            self.assert_none((BUSES, (("ab", "a", "b", resistance),), SOURCES, (), RULES))
            self.assert_none((BUSES, LINES, (("g", "a", resistance),), (), RULES))

    def test_delays(self):
        self.assert_net(*(guard(delay=delay) for delay in range(21)))
        self.assert_none(*(guard(delay=delay) for delay in (-1, 21, 100, True, False, None, "0", 0.0)))

    def test_errors(self):
        self.assert_net(*(rules(error=error) for error in ((0, 1), (1, 2), (999, 1000), (1, 1000), (1, 999))))
        wrong = [(1, 1), (2, 1), (-1, 2), (0, 2), (2, 4), (0, 0), (1, 0), (1, -2), (-1, -2), (1, 1001), (1000, 1001)]
        wrong += [(0, -1), (True, 2), (False, True), (0, True), (1,), (1, 2, 3), 0, 1, None, 0.5, "1/2", [1, 2]]
        self.assert_none(*(rules(error=error) for error in wrong))

    def test_least_and_most(self):
        for least in range(-1, 9):
            for most in range(-1, 9):
                net = rules(least=least, most=most)
                if 1 <= least <= most <= 6:
                    self.assert_net(net)
                else:
                    self.assert_none(net)
        self.assert_none(rules(least=True), rules(most=None), rules(least="1"), rules(least=True, most=True))

    def test_ticks(self):
        self.assert_net(*(rules(ticks=ticks) for ticks in (1, 2, 39, 40)))
        self.assert_none(*(rules(ticks=ticks) for ticks in (0, 41, -1, True, None, "10", 1.0, 10 ** 30)))

    def test_bounds(self):
        for bound in ((1, 1), (1, 1000), (1000, 1), (999, 1000), (1000, 999), (3, 2)):
            self.assert_net(guard(("over", ("ab", 0), bound, False)), guard(("reach", ("ab", 0), bound)))
            self.assert_net(guard(("difference", "ab", bound)))
        wrong = [(0, 1), (-1, 2), (-3, 1), (1, 0), (1, -1), (-1, -1), (2, 2), (2, 4), (1001, 1), (1, 1001), (1001, 1000)]
        wrong += [(True, 2), (1, True), (1,), (1, 2, 3), (), 1, None, 0.5, "1/2", [1, 2], (1.0, 2), ("1", "2")]
        for bound in wrong:
            self.assert_none(guard(("over", ("ab", 0), bound, False)), guard(("reach", ("ab", 0), bound)))
            self.assert_none(guard(("difference", "ab", bound)))

    def test_lines(self):
        self.assert_net((BUSES, (("x", "a", "b", 1), ("y", "b", "a", 1), ("z", "a", "b", 1)), SOURCES, (), RULES))
        self.assert_net((("a", "b", "c"), LINES, (("g", "c", 1),), (), RULES))
        ends = [("a", "a"), ("b", "b"), ("a", "c"), ("c", "a"), ("a", "g"), ("a", "ab"), ("a", None), (0, 1), ("a", ("b",))]
        self.assert_none(*((BUSES, (("ab", one, other, 10),), SOURCES, (), RULES) for one, other in ends))

    def test_sources(self):
        buses = ["c", "ab", "g", None, 0, ("a",), "", "A", Awkward()]
        self.assert_none(*((BUSES, LINES, (("g", bus, 3),), (), RULES) for bus in buses))

    def test_breakers(self):
        right = [("ab", 0), ("ab", 1), ("g", 0)]
        wrong = [("g", 1), ("ab", 2), ("ab", -1), ("a", 0), ("q", 0), ("zz", 0), ("ab",), ("ab", 0, 0), "ab", "ab.0"]
        wrong += [("ab", True), ("ab", False), ("ab", None), ("ab", "0"), ("ab", 0.0), ["ab", 0], None, (0, "ab"), ()]
        wrong += [(None, 0), (("ab",), 0), (["ab"], 0), (Awkward(), 0), Awkward()]
        for kind, more in (("over", ((1, 2), False)), ("reach", ((1, 2),)), ("behind", ())):
            self.assert_net(*(guard((kind, breaker, *more)) for breaker in right))
            self.assert_none(*(guard((kind, breaker, *more)) for breaker in wrong))
        self.assert_net(*(guard(opens=(breaker,)) for breaker in right))
        self.assert_none(*(guard(opens=(breaker,)) for breaker in wrong))
        self.assert_none(*(guard(opens=(("ab", 0), breaker)) for breaker in wrong))

    def test_opens(self):
        self.assert_net(guard(opens=(("ab", 0), ("ab", 1), ("g", 0))), guard(opens=(("ab", 1), ("g", 0))))
        wrong = [(), (("ab", 1), ("ab", 0)), (("g", 0), ("ab", 0)), (("ab", 0), ("ab", 0)), ("ab", 0), [("ab", 0)], None]
        wrong += [(("ab", 0), ("ab", 1), ("ab", 1)), (("ab", 0), ("g", 0), ("ab", 1)), "ab", 0, {("ab", 0)}, Awkward()]
        self.assert_none(*(guard(opens=opens) for opens in wrong))

    def test_parts(self):
        self.assert_net(*(guard(("difference", part, (1, 2))) for part in ("a", "b", "ab")))
        wrong = ["g", "q", "zz", ("ab", 0), "ab.0", None, 0, ("ab",), ["ab"], "", Awkward()]
        self.assert_none(*(guard(("difference", part, (1, 2))) for part in wrong))

    def test_kinds(self):
        breaker = ("ab", 0)
        wrong = [("near", breaker, (1, 2)), ("Over", breaker, (1, 2), True), (), ("over",), ("behind",), (None, breaker)]
        wrong += [("over", breaker, (1, 2)), ("over", breaker, (1, 2), True, True), ("behind", breaker, (1, 2))]
        wrong += [("reach", breaker), ("reach", breaker, (1, 2), False), ("difference", "ab"), ("difference", "ab", (1, 2), 0)]
        wrong += ["behind", None, 0, ["behind", breaker], (("behind",), breaker), (Awkward(), breaker), Awkward(), b"over"]
        self.assert_none(*(guard(told) for told in wrong))

    def test_a_guard_at_a_source(self):
        self.assert_net(guard(("over", ("g", 0), (1, 2), True)), guard(("reach", ("g", 0), (1, 2))))
        self.assert_net(guard(("behind", ("g", 0)), opens=(("g", 0),)))

    def test_names(self):
        right = ["x", "a1", "abcdefgh", "z9999999", "busx", "lines", "over1", "open", "type", "none", "fault"]
        wrong = ["", "abcdefghi", "1a", "1", "A", "aB", "a_b", "a b", " a", "a ", "a.0", "\u00e4", "a\n", "\u0430", "a\u0661"]
        wrong += ["bus", "line", "source", "guard", "error", "breaker", "ticks", "over", "reach", "difference", "behind"]
        wrong += ["forward", "delay", "opens", None, 0, b"a", ("a",), ["a"], Awkward()]
        for name in right + wrong:
            nets = [((name, "b"), (), (("s", "b", 1),), (), RULES), (BUSES, ((name, "a", "b", 1),), SOURCES, (), RULES)]
            nets += [(BUSES, LINES, ((name, "a", 1),), (), RULES), guard(name=name)]
            if any(name is one for one in right):
                self.assert_net(*nets)
            else:
                self.assert_none(*nets)

    def test_words_of_rooms_are_names_here(self):
        words = ("channel", "let", "send", "order", "shut", "gone", "and", "or", "not", "timer", "latch", "got", "open")
        for word in words[:5]:
            self.assert_net(((word,), (), (("s", word, 1),), (), RULES))

    def test_names_told_twice(self):
        names = {"bus": "a", "line": "ab", "source": "g", "guard": "q"}
        self.assert_none((("a", "a"), (), SOURCES, (), RULES))
        self.assert_none((BUSES, (("ab", "a", "b", 1), ("ab", "b", "a", 2)), SOURCES, (), RULES))
        self.assert_none((BUSES, LINES, (("g", "a", 3), ("g", "b", 3)), (), RULES))
        one = ("q", ("behind", ("g", 0)), 0, (("g", 0),))
        self.assert_net((BUSES, LINES, SOURCES, (one, ("r", *one[1:])), RULES))
        self.assert_none((BUSES, LINES, SOURCES, (one, one), RULES))
        for kind, name in names.items():
            if kind not in ("bus", "line"):
                self.assert_none((("a", "b", name), LINES, SOURCES, (one,), RULES))
            if kind != "line":
                self.assert_none((BUSES, LINES + ((name, "a", "b", 1),), SOURCES, (one,), RULES))
            if kind != "source":
                self.assert_none((BUSES, LINES, SOURCES + ((name, "a", 1),), (one,), RULES))
            if kind != "guard":
                self.assert_none((BUSES, LINES, SOURCES, (one, (name, *one[1:])), RULES))
        self.assert_none((("a", "b", "ab"), LINES, SOURCES, (), RULES))

    def test_lengths(self):
        self.assert_none(EXAMPLE[:4], EXAMPLE[1:], (*EXAMPLE, ()), (*EXAMPLE, EXAMPLE[4]), EXAMPLE[:3] + EXAMPLE[4:])
        self.assert_none((BUSES, LINES, SOURCES, (), RULES[:3]), (BUSES, LINES, SOURCES, (), (*RULES, 1)))
        self.assert_none((BUSES, LINES, SOURCES, (), ((1, 10), 1, 2)), (BUSES, LINES, SOURCES, (), ()))

    def test_strings_and_dicts_in_the_place_of_tuples(self):
        self.assert_none(("ab", (), SOURCES, (), RULES), ({"a": 1}, (), SOURCES, (), RULES))
        self.assert_none((BUSES, "", SOURCES, (), RULES), (BUSES, LINES, SOURCES, "", RULES), (BUSES, {}, SOURCES, (), RULES))


if __name__ == "__main__":
    unittest.main()
