"""[4] Places and cells."""

import random
import unittest
from itertools import product
from math import gcd

from exact import ENDS, order, poly_at, sign, times, value_of
from justthepart.places import cells_of, is_place, is_still, order_of, places_of, sample
from justthepart.polys import roots, sign_on, whole

LOW = ("root", (1, -4, 2), 0)
HIGH = ("root", (1, -4, 2), 1)
HUGE = 10 ** 400 + 7


def whole_of(c0, c1, c2):
    """Return the whole form of a polynomial of integers."""
    return whole(((c0, 1), (c1, 1), (c2, 1)))


class Awkward:
    """A thing that lets nothing be asked of it."""

    def refuse(self, *told):
        raise RuntimeError("asked")

    __eq__ = __ne__ = __len__ = __iter__ = __getitem__ = __bool__ = __lt__ = __gt__ = refuse
    __hash__ = __int__ = __index__ = __str__ = __repr__ = refuse


class IsPlace(unittest.TestCase):
    def assert_places(self, things, wanted):
        for thing in things:
            self.assertIs(is_place(thing), wanted)

    def test_fractions(self):
        self.assert_places([(1, 3), (1, 2), (2, 3), (999, 1000), (1, HUGE), (HUGE, HUGE + 1)], True)

    def test_fractions_that_are_not_between(self):
        self.assert_places([(0, 1), (1, 1), (-1, 2), (3, 2), (2, 1), (-1, 1), (HUGE + 1, HUGE)], False)

    def test_fractions_of_no_least_form(self):
        self.assert_places([(2, 6), (2, 4), (HUGE, 2 * HUGE), (0, 2), (0, 5), (3, 3)], False)

    def test_denominators_not_above_0(self):
        self.assert_places([(1, 0), (0, 0), (-1, 0), (-1, -3), (1, -3), (-2, -3)], False)

    def test_roots(self):
        self.assert_places([LOW, ("root", (-1, 1, 1), 1), ("root", (1, -6, 6), 0), ("root", (1, -6, 6), 1)], True)
        near = (HUGE * HUGE + 1, 0, -1 - 2 * HUGE * HUGE)
        self.assert_places([("root", tuple(-c for c in near), 1)], True)

    def test_roots_that_are_not_between(self):
        self.assert_places([HIGH, ("root", (-1, 1, 1), 0), ("root", (-2, 0, 1), 0), ("root", (-2, 0, 1), 1)], False)
        self.assert_places([("root", (1, 4, 2), 0), ("root", (1, 4, 2), 1)], False)

    def test_own_that_is_no_whole_form(self):
        self.assert_places([("root", (2, -8, 4), 0), ("root", (3, -18, 18), 1), ("root", (-2, 2, 2), 1)], False)

    def test_own_with_a_last_number_not_above_0(self):
        self.assert_places([("root", (-1, 4, -2), which) for which in (0, 1)], False)
        self.assert_places([("root", (-1, 2, 0), which) for which in (0, 1)], False)
        self.assert_places([("root", (0, 0, 0), 0), ("root", (1, 0, 0), 0)], False)

    def test_own_with_fractions_as_roots(self):
        self.assert_places([("root", (1, -5, 6), which) for which in (0, 1)], False)
        self.assert_places([("root", (1, -4, 4), which) for which in (0, 1)], False)
        self.assert_places([("root", (0, -1, 2), which) for which in (0, 1)], False)

    def test_own_without_real_roots(self):
        self.assert_places([("root", (1, 0, 1), 0), ("root", (1, -1, 1), 0), ("root", (1, -1, 1), 1)], False)

    def test_own_of_other_things(self):
        owns = [[1, -4, 2], (1, -4), (1, -4, 2, 0), (), None, "abc", 3, (1, -4, True), (True, -4, 2), (1, -4, 2.0)]
        owns += [(1, None, 2), ("1", "-4", "2"), ((1, 1), (-4, 1), (2, 1)), {1: 1}, Awkward(), (1, -4, Awkward())]
        self.assert_places([("root", own, 0) for own in owns], False)

    def test_which_of_other_things(self):
        whiches = [2, -1, True, False, None, "0", 0.0, 1.0, (), [0], Awkward()]
        self.assert_places([("root", (1, -6, 6), which) for which in whiches], False)

    def test_words_of_other_things(self):
        words = ["Root", "roots", "", b"root", None, 0, ("root",), ["root"], Awkward()]
        self.assert_places([(word, (1, -4, 2), 0) for word in words], False)

    def test_lists_in_the_place_of_tuples(self):
        self.assert_places([[1, 3], ["root", (1, -4, 2), 0], ["root", [1, -4, 2], 0], [(1, 3)]], False)

    def test_other_lengths(self):
        self.assert_places([(), (1,), (1, 3, 1), (1, 2, 3), ("root", (1, -4, 2)), (*LOW, 0), ("root",)], False)

    def test_bools_in_the_place_of_integers(self):
        self.assert_places([(True, 2), (True, 3), (True, True), (False, True), (1, True)], False)

    def test_anything(self):
        things = [None, True, False, 0, 1, 0.5, float("nan"), 1j, "", "1/3", "ab", "abc", b"ab", b"abc"]
        things += [[], {}, {1: 2}, {1, 2}, frozenset((1, 3)), range(2), object(), int, len, Awkward()]
        things += [((1, 3), (1, 3)), ((1, 3),), (None, None), ("1", "3"), (0.5, 2), (1, 2.0), (1, float("nan"))]
        things += [(Awkward(), 2), (1, Awkward()), (Awkward(), Awkward(), Awkward()), ("root", LOW, 0), (LOW, 1)]
        self.assert_places(things, False)
        nested = (1, 3)
        for _ in range(5000):
            nested = (nested, nested)
        self.assert_places([nested, ("root", nested, 0)], False)
        endless = []
        endless.append(endless)
        self.assert_places([endless, (endless, endless), ("root", endless, 0)], False)

    def test_all_small_fractions(self):
        for n, d in product(range(-3, 12), range(-3, 12)):
            self.assertIs(is_place((n, d)), d > 0 and gcd(n, d) == 1 and 0 < n < d)

    def test_all_small_roots(self):
        for own in product(range(-5, 6), repeat=3):
            for which in (0, 1):
                root = ("root", own, which)
                wanted = root in roots(own) and gcd(*own) == 1 and 0 < value_of(root) < 1
                self.assertIs(is_place(root), wanted)

    def test_asked_twice(self):
        thing = ["root", [1, -4, 2], 0]
        self.assertEqual((is_place(thing), is_place(thing)), (False, False))
        self.assertEqual(thing, ["root", [1, -4, 2], 0])


class OrderOf(unittest.TestCase):
    def assert_order(self, one, other, wanted):
        self.assertEqual((order_of(one, other), order_of(other, one)), (wanted, -wanted))
        self.assertIs(type(order_of(one, other)), int)

    def test_fractions(self):
        self.assert_order((1, 3), (1, 2), -1)
        self.assert_order((1, 3), (1, 3), 0)
        self.assert_order((-1, 2), (-1, 3), -1)
        self.assert_order((0, 1), (1, 1), -1)
        self.assert_order((7, 2), (-9, 4), 1)

    def test_a_fraction_and_a_root(self):
        self.assert_order((1, 3), LOW, 1)
        self.assert_order((1, 4), LOW, -1)
        self.assert_order((1, 1), HIGH, -1)
        self.assert_order((2, 1), HIGH, 1)
        self.assert_order((-3, 2), ("root", (-2, 0, 1), 0), -1)

    def test_roots_of_one_polynomial(self):
        self.assert_order(LOW, HIGH, -1)
        self.assert_order(LOW, LOW, 0)
        self.assert_order(HIGH, HIGH, 0)

    def test_roots_of_unlike_polynomials(self):
        self.assert_order(LOW, ("root", (-1, 1, 1), 1), -1)
        self.assert_order(HIGH, ("root", (-1, 1, 1), 1), 1)
        self.assert_order(LOW, ("root", (-1, 1, 1), 0), 1)
        self.assert_order(("root", (-2, 0, 1), 0), ("root", (-3, 0, 1), 0), 1)
        self.assert_order(("root", (-2, 0, 1), 1), ("root", (-3, 0, 1), 1), -1)
        # The roots of the second one are those of the first one plus 10: behind both of them.
        self.assert_order(("root", (-2, 0, 1), 0), ("root", (98, -20, 1), 0), -1)
        self.assert_order(("root", (-2, 0, 1), 1), ("root", (98, -20, 1), 0), -1)

    def test_all_small_ones(self):
        polys = [poly for poly in product(range(-3, 4), repeat=3) if gcd(*poly) == 1]
        found = sorted({root for poly in polys for root in roots(poly)}, key=value_of)
        for one, other in product(found[::4], found):
            self.assertEqual(order_of(one, other), order(one, other))

    def test_roots_side_by_side(self):
        # (k - the root of 2) / m and (k + the root of 2) / m, among which many fall between two others.
        polys = [whole_of(k * k - 2, -2 * k * m, m * m) for k in range(-12, 13) for m in (1, 2, 3)]
        found = sorted({root for poly in polys for root in roots(poly)}, key=value_of)
        for one, other in product(found, found[::3]):
            self.assertEqual(order_of(one, other), order(one, other))
        for n, other in product(range(-20, 21), found):
            self.assertEqual(order_of((n, 1), other), order((n, 1), other))

    def test_very_close_ones(self):
        n = HUGE
        self.assert_order((n, n + 1), (n + 1, n + 2), -1)
        self.assert_order((n, n), (1, 1), 0)
        one = roots(whole_of(-2 * n * n, 0, n * n))
        more = roots(whole_of(-2 * n * n - 1, 0, n * n))
        self.assert_order(one[1], more[1], -1)
        self.assert_order(one[0], more[0], 1)
        p, q = 1, 1
        for _ in range(1200):
            self.assert_order((p, q), one[1], sign(p * p - 2 * q * q))
            p, q = p + 2 * q, p + q
        # Two roots of one polynomial, 10 ** -400 from each other.
        near = roots(whole_of(*(a - b for a, b in zip((n * n, -4 * n * n, 4 * n * n), (1, 0, 0)))))
        self.assertEqual(len(near), 2)
        self.assert_order(near[0], near[1], -1)

    def test_arguments_are_kept(self):
        one, other = ("root", (1, -4, 2), 0), (1, 3)
        self.assertEqual(order_of(one, other), order_of(one, other))
        self.assertEqual((one, other), (LOW, (1, 3)))


class PlacesOf(unittest.TestCase):
    def test_nothing(self):
        self.assertEqual(places_of([]), [])
        self.assertEqual(places_of([(0, 0, 0)]), [])
        self.assertEqual(places_of([(1, 0, 0), (-1, 0, 0), (1, 0, 1)]), [])

    def test_only_between_0_and_1(self):
        self.assertEqual(places_of([(0, 1, 0), (-1, 1, 0), (1, 1, 0), (-2, 1, 0), (0, -1, 1)]), [])
        self.assertEqual(places_of([(1, -4, 2)]), [LOW])
        self.assertEqual(places_of([(-1, 1, 1)]), [("root", (-1, 1, 1), 1)])
        self.assertEqual(places_of([(-2, 0, 1)]), [])
        self.assertEqual(places_of([(0, -1, 2)]), [(1, 2)])

    def test_ascending(self):
        polys = [(-2, 3, 0), (1, -4, 2), (0, 0, 0), (1, -5, 6), (-1, 1, 1)]
        self.assertEqual(places_of(polys), [LOW, (1, 3), (1, 2), ("root", (-1, 1, 1), 1), (2, 3)])
        self.assertEqual(places_of(polys[::-1]), places_of(polys))

    def test_each_once(self):
        self.assertEqual(places_of([(1, -5, 6), (1, -2, 0), (1, -6, 8), (1, -4, 4)]), [(1, 4), (1, 3), (1, 2)])
        self.assertEqual(places_of([(1, -4, 2), (-1, 4, -2), (1, -4, 2)]), [LOW])
        self.assertEqual(places_of([(1, -4, 2), (2, -8, 4), (-3, 12, -6)]), [LOW])
        self.assertEqual(places_of([(1, -2, 0), (-1, 2, 0), (3, -6, 0), (0, 1, -2)]), [(1, 2)])

    def test_very_close_ones(self):
        n = HUGE
        polys = [(-n * n - k, 0, 2 * n * n) for k in (3, -1, 0, 2, -2, 1)]
        told = places_of([whole_of(*poly) for poly in polys])
        self.assertEqual(told, [roots(whole_of(-n * n - k, 0, 2 * n * n))[1] for k in (-2, -1, 0, 1, 2, 3)])
        self.assertEqual(places_of([(-n, n + 1, 0), (-n + 1, n, 0)]), [(n - 1, n), (n, n + 1)])

    def test_many(self):
        rng = random.Random(17)
        for size in (3, 30, 10 ** 12, 10 ** 80):
            polys = [whole_of(*(rng.randint(-size, size) for _ in range(3))) for _ in range(150)]
            told = places_of(polys)
            values = [value_of(place) for place in told]
            self.assertEqual(values, sorted(values))
            found = {root for poly in polys for root in roots(poly) if 0 < value_of(root) < 1}
            self.assertEqual((len(told), {*told}), (len(found), found))
            self.assertTrue(all(is_place(place) for place in told))

    def test_arguments_are_kept(self):
        polys = [(1, -2, 0), (0, 0, 0), (1, -4, 2), (1, -2, 0)]
        told = places_of(polys)
        told.append((0, 1))
        self.assertEqual(places_of(polys), [LOW, (1, 2)])
        self.assertEqual(polys, [(1, -2, 0), (0, 0, 0), (1, -4, 2), (1, -2, 0)])


class CellsOf(unittest.TestCase):
    def test_without_a_place(self):
        for polys in ([], [(0, 0, 0)], [(-1, 1, 0), (0, 1, 0)], [(-2, 0, 1)]):
            self.assertEqual(cells_of(polys), [("between", (0, 1), (1, 1))])

    def test_stretches_and_places(self):
        wanted = [("between", (0, 1), LOW), ("at", LOW), ("between", LOW, (1, 2)), ("at", (1, 2))]
        wanted.append(("between", (1, 2), (1, 1)))
        self.assertEqual(cells_of([(1, -2, 0), (1, -4, 2)]), wanted)

    def test_many(self):
        rng = random.Random(19)
        polys = [whole_of(*(rng.randint(-20, 20) for _ in range(3))) for _ in range(60)]
        cells = cells_of(polys)
        places = places_of(polys)
        self.assertIs(type(cells), list)
        self.assertEqual(cells[1::2], [("at", place) for place in places])
        marks = [ENDS[0], *places, ENDS[1]]
        self.assertEqual(cells[::2], [("between", one, other) for one, other in zip(marks, marks[1:])])
        for poly in polys:
            self.assertTrue(all(is_still(poly, cell) for cell in cells))

    def test_arguments_are_kept(self):
        polys = [(1, -2, 0), (1, -4, 2)]
        told = cells_of(polys)
        told.pop()
        self.assertEqual(len(cells_of(polys)), 5)
        self.assertEqual(polys, [(1, -2, 0), (1, -4, 2)])


class Sample(unittest.TestCase):
    def assert_sample(self, cell):
        place = sample(cell)
        self.assertIs(is_place(place), True)
        self.assertEqual((order_of(cell[1], place), order_of(place, cell[2])), (-1, -1))
        self.assertEqual(sample(cell), place)

    def test_of_one_place(self):
        for place in ((1, 3), LOW, (HUGE, HUGE + 1)):
            self.assertEqual(sample(("at", place)), place)

    def test_of_stretches(self):
        for one, other in (((0, 1), (1, 1)), ((0, 1), (1, 2)), ((1, 2), (1, 1)), ((1, 3), (1, 2)), ((1, 3), (2, 3))):
            self.assert_sample(("between", one, other))
        self.assert_sample(("between", (0, 1), LOW))
        self.assert_sample(("between", LOW, (1, 1)))
        self.assert_sample(("between", LOW, (1, 3)))
        self.assert_sample(("between", LOW, ("root", (-1, 1, 1), 1)))

    def test_of_very_short_stretches(self):
        n = HUGE
        self.assert_sample(("between", (0, 1), (1, n)))
        self.assert_sample(("between", (n, n + 1), (1, 1)))
        self.assert_sample(("between", (n - 1, n), (n, n + 1)))
        near = [roots(whole_of(-n * n - k, 0, 2 * n * n))[1] for k in (0, 1)]
        self.assert_sample(("between", *near))
        # p / q lies below and above the root of 1/2, less than 10 ** -600 away.
        root = roots((-1, 0, 2))[1]
        p, q = 1, 1
        for _ in range(800):
            p, q = p + q, 2 * p + q
        if order_of((p, q), root) > 0:
            p, q = p + q, 2 * p + q
        self.assert_sample(("between", (p, q), root))
        self.assert_sample(("between", root, (p + q, 2 * p + q)))

    def test_of_all_cells(self):
        rng = random.Random(23)
        polys = [whole_of(*(rng.randint(-50, 50) for _ in range(3))) for _ in range(80)]
        for cell in cells_of(polys)[::2]:
            self.assert_sample(cell)

    def test_arguments_are_kept(self):
        cell = ("between", (0, 1), LOW)
        self.assertEqual(sample(cell), sample(cell))
        self.assertEqual(cell, ("between", (0, 1), ("root", (1, -4, 2), 0)))


class IsStill(unittest.TestCase):
    ALL = ("between", (0, 1), (1, 1))

    def test_one_place_and_nothing(self):
        for poly in ((1, -3, 0), (1, -4, 2), (0, 0, 0), (1, 0, 0)):
            self.assertIs(is_still(poly, ("at", (1, 3))), True)
            self.assertIs(is_still(poly, ("at", LOW)), True)
        for cell in (self.ALL, ("between", (1, 3), LOW)):
            self.assertIs(is_still((0, 0, 0), cell), True)
            self.assertIs(is_still((1, 0, 0), cell), True)
            self.assertIs(is_still((-1, 0, 0), cell), True)

    def test_degree_1(self):
        self.assertIs(is_still((1, -3, 0), ("between", (0, 1), (1, 2))), False)
        self.assertIs(is_still((-1, 3, 0), ("between", (0, 1), (1, 2))), False)
        self.assertIs(is_still((1, -3, 0), ("between", (0, 1), (1, 3))), True)
        self.assertIs(is_still((1, -3, 0), ("between", (1, 3), (1, 1))), True)
        self.assertIs(is_still((1, -3, 0), ("between", (1, 2), (1, 1))), True)

    def test_one_root_within(self):
        for poly in ((1, -4, 2), (-1, 4, -2)):
            self.assertIs(is_still(poly, self.ALL), False)
            self.assertIs(is_still(poly, ("between", (0, 1), LOW)), True)
            self.assertIs(is_still(poly, ("between", LOW, (1, 1))), True)
            self.assertIs(is_still(poly, ("between", (1, 3), (1, 1))), True)

    def test_two_roots_within(self):
        for poly in ((1, -6, 6), (-1, 6, -6), (1, -5, 6), (-1, 5, -6)):
            low, high = roots(poly)
            self.assertIs(is_still(poly, self.ALL), False)
            self.assertIs(is_still(poly, ("between", low, high)), True)
            self.assertIs(is_still(poly, ("between", low, (1, 1))), False)
            self.assertIs(is_still(poly, ("between", (0, 1), high)), False)
            self.assertIs(is_still(poly, ("between", (0, 1), low)), True)
            self.assertIs(is_still(poly, ("between", high, (1, 1))), True)

    def test_a_root_that_counts_twice(self):
        for poly in ((1, -4, 4), (-1, 4, -4)):
            self.assertIs(is_still(poly, self.ALL), False)
            self.assertIs(is_still(poly, ("between", (0, 1), (1, 2))), True)
            self.assertIs(is_still(poly, ("between", (1, 2), (1, 1))), True)

    def test_a_turn_without_a_root(self):
        for poly in ((1, -2, 2), (-1, 2, -2)):
            self.assertIs(is_still(poly, self.ALL), True)

    def test_against_roots(self):
        marks = [(0, 1), (1, 4), LOW, (1, 3), (1, 2), ("root", (-1, 1, 1), 1), (2, 3), (1, 1)]
        polys = [poly for poly in product(range(-4, 5), repeat=3) if gcd(*poly) == 1]
        found = {poly: roots(poly) for poly in polys}
        for at, one in enumerate(marks):
            for other in marks[at + 1:]:
                low, high = value_of(one), value_of(other)
                for poly in polys:
                    inner = [root for root in found[poly] if root not in (one, other)]
                    wanted = not any(low < value_of(root) < high for root in inner)
                    self.assertIs(is_still(poly, ("between", one, other)), wanted)

    def test_very_close_ones(self):
        n = HUGE
        polys = [whole_of(-n * n - k, 0, 2 * n * n) for k in (0, 1, 2)]
        low, middle, high = (roots(poly)[1] for poly in polys)
        self.assertIs(is_still(polys[1], ("between", low, high)), False)
        self.assertIs(is_still(polys[1], ("between", low, middle)), True)
        self.assertIs(is_still(polys[1], ("between", middle, high)), True)
        self.assertIs(is_still(polys[0], ("between", middle, high)), True)
        both = times((-n, n + 1), (-n + 1, n))
        self.assertIs(is_still(both, ("between", (n - 1, n), (n, n + 1))), True)
        self.assertIs(is_still(both, ("between", (n - 1, n), (1, 1))), False)
        self.assertIs(is_still(both, ("between", (n - 2, n - 1), (1, 1))), False)
        self.assertEqual(sign_on(both, (n - 1, n)), poly_at(both, n - 1, n))

    def test_arguments_are_kept(self):
        poly, cell = (1, -3, 0), ("between", (0, 1), (1, 2))
        self.assertEqual(is_still(poly, cell), is_still(poly, cell))
        self.assertEqual((poly, cell), ((1, -3, 0), ("between", (0, 1), (1, 2))))


if __name__ == "__main__":
    unittest.main()
