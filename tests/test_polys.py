"""[3] Polynomials: whole, roots, sign_on."""

import random
import unittest
from fractions import Fraction
from math import gcd, isqrt

from exact import poly_at, sign, times, value_of
from justthepart.polys import roots, sign_on, whole

HUGE = 10 ** 400 + 7


def whole_of(c0, c1, c2):
    """Return the whole form of a polynomial of integers."""
    return whole(((c0, 1), (c1, 1), (c2, 1)))


class Whole(unittest.TestCase):
    def test_unlike_denominators_and_signs(self):
        self.assertEqual(whole(((1, 2), (-3, 4), (5, 6))), (6, -9, 10))
        self.assertEqual(whole(((-1, 2), (3, 4), (-5, 6))), (-6, 9, -10))
        self.assertEqual(whole(((-1, 6), (-1, 10), (-1, 15))), (-5, -3, -2))
        self.assertEqual(whole(((0, 1), (-4, 3), (0, 1))), (0, -1, 0))
        self.assertEqual(whole(((0, 1), (0, 1), (-7, 5))), (0, 0, -1))
        self.assertEqual(whole(((9, 4), (0, 1), (0, 1))), (1, 0, 0))

    def test_integers_lose_their_common_divisor(self):
        self.assertEqual(whole_of(-6, 9, 12), (-2, 3, 4))
        self.assertEqual(whole_of(0, -10, 15), (0, -2, 3))
        self.assertEqual(whole_of(6, 10, 15), (6, 10, 15))

    def test_nothing(self):
        self.assertEqual(whole(((0, 1), (0, 1), (0, 1))), (0, 0, 0))

    def test_a_whole_form_is_its_own(self):
        for form in ((2, -3, 0), (-1, 4, -2), (0, 0, 0), (0, 0, -1), (6, 10, 15), (1, 0, 0)):
            self.assertEqual(whole_of(*form), form)
            self.assertEqual(whole(form), form)

    def test_many(self):
        rng = random.Random(3)
        for _ in range(2000):
            parts = [Fraction(rng.randint(-60, 60), rng.randint(1, 60)) for _ in range(3)]
            told = whole(tuple((part.numerator, part.denominator) for part in parts))
            self.assert_whole_form_of(told, parts)

    def test_hundreds_of_figures(self):
        parts = [Fraction(HUGE, 3 ** 700), Fraction(-HUGE * 5, 2 ** 900), Fraction(HUGE, 7 ** 300)]
        told = whole(tuple((part.numerator, part.denominator) for part in parts))
        self.assert_whole_form_of(told, parts)

    def assert_whole_form_of(self, told, parts):
        self.assertIs(type(told), tuple)
        self.assertEqual([type(number) for number in told], [int] * 3)
        self.assertEqual(gcd(*told), 1 if any(told) else 0)
        ratios = {part / number for part, number in zip(parts, told) if number}
        self.assertEqual([not part for part in parts], [not number for number in told])
        self.assertLessEqual(len(ratios), 1)
        self.assertTrue(all(ratio > 0 for ratio in ratios))

    def test_arguments_are_kept(self):
        poly = ((1, 2), (-3, 4), (0, 1))
        self.assertEqual(whole(poly), whole(poly))
        self.assertEqual(poly, ((1, 2), (-3, 4), (0, 1)))


class Roots(unittest.TestCase):
    def test_none(self):
        for poly in ((0, 0, 0), (1, 0, 0), (-1, 0, 0)):
            self.assertEqual(roots(poly), [])

    def test_degree_1(self):
        self.assertEqual(roots((2, -3, 0)), [(2, 3)])
        self.assertEqual(roots((-2, 3, 0)), [(2, 3)])
        self.assertEqual(roots((2, 3, 0)), [(-2, 3)])
        self.assertEqual(roots((-2, -3, 0)), [(-2, 3)])
        self.assertEqual(roots((0, 1, 0)), [(0, 1)])
        self.assertEqual(roots((0, -1, 0)), [(0, 1)])
        self.assertEqual(roots((5, 1, 0)), [(-5, 1)])

    def test_no_real_root(self):
        for poly in ((1, 0, 1), (-1, 0, -1), (1, 1, 1), (1, -1, 1), (-1, 1, -1), (HUGE, 1, HUGE)):
            self.assertEqual(roots(poly), [])

    def test_one_root_is_told_once(self):
        self.assertEqual(roots((1, -2, 1)), [(1, 1)])
        self.assertEqual(roots((-1, 4, -4)), [(1, 2)])
        self.assertEqual(roots((4, 12, 9)), [(-2, 3)])
        self.assertEqual(roots((0, 0, 1)), [(0, 1)])
        self.assertEqual(roots((0, 0, -1)), [(0, 1)])

    def test_two_fractions(self):
        self.assertEqual(roots((1, -5, 6)), [(1, 3), (1, 2)])
        self.assertEqual(roots((-1, 5, -6)), [(1, 3), (1, 2)])
        self.assertEqual(roots((1, 5, 6)), [(-1, 2), (-1, 3)])
        self.assertEqual(roots((-1, -5, -6)), [(-1, 2), (-1, 3)])
        self.assertEqual(roots((-1, 1, 6)), [(-1, 2), (1, 3)])
        self.assertEqual(roots((-1, 0, 4)), [(-1, 2), (1, 2)])
        self.assertEqual(roots((1, 0, -4)), [(-1, 2), (1, 2)])
        self.assertEqual(roots((0, -2, 3)), [(0, 1), (2, 3)])
        self.assertEqual(roots((0, 2, 3)), [(-2, 3), (0, 1)])
        self.assertEqual(roots((0, 2, -3)), [(0, 1), (2, 3)])

    def test_two_roots_that_are_no_fractions(self):
        self.assertEqual(roots((1, -4, 2)), [("root", (1, -4, 2), 0), ("root", (1, -4, 2), 1)])
        self.assertEqual(roots((-2, 0, 1)), [("root", (-2, 0, 1), 0), ("root", (-2, 0, 1), 1)])
        self.assertEqual(roots((1, 4, 2)), [("root", (1, 4, 2), 0), ("root", (1, 4, 2), 1)])

    def test_last_number_of_own_is_above_0(self):
        self.assertEqual(roots((-1, 4, -2)), [("root", (1, -4, 2), 0), ("root", (1, -4, 2), 1)])
        self.assertEqual(roots((3, 0, -1)), [("root", (-3, 0, 1), 0), ("root", (-3, 0, 1), 1)])

    def test_own_is_the_same_for_multiples(self):
        self.assertEqual(roots((3, -12, 6)), roots((1, -4, 2)))
        self.assertEqual(roots((-3, 12, -6)), roots((1, -4, 2)))

    def test_fractions_known_ahead(self):
        rng = random.Random(5)
        for _ in range(2000):
            size = rng.choice((9, 1000, 10 ** 60))
            pairs = [self.some_fraction(rng, size) for _ in range(2)]
            one, other = ((-pair.numerator, pair.denominator) for pair in pairs)
            flip = rng.choice((1, -1))
            poly = whole_of(*(flip * number for number in times(one, other)))
            told = [(pair.numerator, pair.denominator) for pair in sorted({*pairs})]
            self.assertEqual(roots(poly), told)

    def some_fraction(self, rng, size):
        return Fraction(rng.randint(-size, size), rng.randint(1, size))

    def test_all_small_polynomials(self):
        for c0 in range(-6, 7):
            for c1 in range(-6, 7):
                for c2 in range(-6, 7):
                    poly = (c0, c1, c2)
                    if gcd(*poly) == 1:
                        self.assert_roots(poly, roots(poly))

    def assert_roots(self, poly, told):
        square = poly[1] * poly[1] - 4 * poly[0] * poly[2]
        many = 1 if poly[1] else 0
        if poly[2]:
            many = sign(square) + 1
        self.assertIs(type(told), list)
        self.assertEqual(len(told), many)
        values = [value_of(root) for root in told]
        self.assertEqual(values, sorted(values))
        for at, root in enumerate(told):
            if root[0] == "root":
                self.assertNotEqual(isqrt(square) ** 2, square)
                own = poly if poly[2] > 0 else tuple(-c for c in poly)
                self.assertEqual(root, ("root", own, at))
            else:
                self.assertEqual((type(root), len(root), gcd(*root)), (tuple, 2, 1))
                self.assertGreater(root[1], 0)
                self.assertEqual(poly_at(poly, *root), 0)

    def test_hundreds_of_figures(self):
        self.assertEqual(roots((-HUGE * HUGE, 0, 1)), [(-HUGE, 1), (HUGE, 1)])
        near = (-HUGE * HUGE - 1, 0, 1)
        self.assertEqual(roots(near), [("root", near, 0), ("root", near, 1)])
        self.assertEqual(roots(times((-HUGE, HUGE + 1), (-HUGE + 1, HUGE))), [(HUGE - 1, HUGE), (HUGE, HUGE + 1)])

    def test_asked_twice(self):
        poly = (1, -4, 2)
        told = roots(poly)
        told.append("more")
        self.assertEqual(roots(poly), [("root", (1, -4, 2), 0), ("root", (1, -4, 2), 1)])
        self.assertEqual(poly, (1, -4, 2))


class SignOn(unittest.TestCase):
    LOW = ("root", (1, -4, 2), 0)
    HIGH = ("root", (1, -4, 2), 1)

    def test_at_fractions(self):
        self.assertEqual(sign_on((1, -3, 0), (1, 4)), 1)
        self.assertEqual(sign_on((1, -3, 0), (1, 3)), 0)
        self.assertEqual(sign_on((1, -3, 0), (1, 2)), -1)
        self.assertEqual(sign_on((1, -5, 6), (2, 5)), -1)
        self.assertEqual(sign_on((1, -5, 6), (1, 2)), 0)
        self.assertEqual(sign_on((1, -5, 6), (0, 1)), 1)
        self.assertEqual(sign_on((1, -5, 6), (1, 1)), 1)
        self.assertEqual(sign_on((1, 2, 0), (-1, 1)), -1)

    def test_numbers_alone(self):
        for place in ((0, 1), (1, 2), (-5, 3), self.LOW, self.HIGH):
            self.assertEqual(sign_on((0, 0, 0), place), 0)
            self.assertEqual(sign_on((1, 0, 0), place), 1)
            self.assertEqual(sign_on((-1, 0, 0), place), -1)

    def test_at_its_own_root(self):
        for poly in ((1, -4, 2), (-1, 4, -2)):
            self.assertEqual([sign_on(poly, self.LOW), sign_on(poly, self.HIGH)], [0, 0])

    def test_lower_and_higher(self):
        # The roots are 1 less and 1 more than the root of 1/2.
        self.assertEqual([sign_on((1, -3, 0), place) for place in (self.LOW, self.HIGH)], [1, -1])
        self.assertEqual([sign_on((-1, 1, 0), place) for place in (self.LOW, self.HIGH)], [-1, 1])
        self.assertEqual([sign_on((0, 0, 1), place) for place in (self.LOW, self.HIGH)], [1, 1])
        self.assertEqual([sign_on((0, 1, -1), place) for place in (self.LOW, self.HIGH)], [1, -1])

    def test_all_small_ones(self):
        polys = [(a, b, c) for a in range(-3, 4) for b in range(-3, 4) for c in range(-3, 4) if gcd(a, b, c) == 1]
        places = [root for poly in polys for root in roots(poly) if root[0] == "root"]
        for place in places[::7]:
            x = value_of(place)
            for poly in polys:
                with self.subTest(poly=poly, place=place):
                    wanted = 0 if place in roots(poly) else sign(poly[0] + poly[1] * x + poly[2] * x * x)
                    self.assertEqual(sign_on(poly, place), wanted)

    def test_a_fraction_very_close_to_a_root(self):
        # Solutions of p p - 2 q q = 1 or -1: p / q lies above or below the root of 2, ever closer.
        p, q = 1, 1
        low, high = roots((-2, 0, 1))
        for _ in range(1500):
            wanted = p * p - 2 * q * q
            self.assertEqual(sign_on((-p, q, 0), high), -wanted)
            self.assertEqual(sign_on((p, q, 0), low), wanted)
            self.assertEqual(sign_on((-2, 0, 1), (p, q)), wanted)
            p, q = p + 2 * q, p + q
        self.assertGreater(q, 10 ** 500)

    def test_a_root_very_close_to_a_root(self):
        n = HUGE
        one = (-2 * n * n, 0, n * n)
        place = roots(whole_of(*one))[1]
        for step in (1, -1):
            near = whole_of(one[0] - step, one[1], one[2])
            self.assertEqual(sign_on(near, place), -step)
            self.assertEqual(sign_on(tuple(-c for c in near), place), step)
            self.assertEqual(sign_on(whole_of(*one), roots(near)[1]), step)

    def test_many_large_ones(self):
        rng = random.Random(11)
        for _ in range(300):
            size = rng.choice((50, 10 ** 30, 10 ** 300))
            poly = whole_of(*(rng.randint(-size, size) for _ in range(3)))
            for place in roots(whole_of(*(rng.randint(-size, size) for _ in range(3)))):
                x = value_of(place)
                self.assertEqual(sign_on(poly, place), sign(poly[0] + poly[1] * x + poly[2] * x * x))

    def test_kind_of_answer_and_arguments(self):
        poly, place = (1, -3, 0), ("root", (1, -4, 2), 0)
        for at in (place, (1, 3), (1, 2)):
            self.assertIs(type(sign_on(poly, at)), int)
            self.assertEqual(sign_on(poly, at), sign_on(poly, at))
        self.assertEqual((poly, place), ((1, -3, 0), ("root", (1, -4, 2), 0)))


if __name__ == "__main__":
    unittest.main()
