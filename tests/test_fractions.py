"""Fractions: point 4."""

import math
import unittest

from branchdepth.fractions import fraction, is_less, minus, over, plus, times

# Two numbers of thirty figures with nothing in common, and a divisor of one more.
BROAD = 10 ** 29 + 7
OTHER = 10 ** 29 + 8
DIVISOR = 3 * 10 ** 30 + 1

NUMBERS = (1, 2, 3, 4, 6, 7, 12, 35, 10 ** 9, BROAD, OTHER, BROAD * DIVISOR, OTHER * DIVISOR)
SIGNED = (0,) + NUMBERS + tuple(-k for k in NUMBERS)
SAMPLES = tuple(sorted({fraction(top, bottom)
                        for top in SIGNED[::2] for bottom in NUMBERS[::2]}))


class Fractions(unittest.TestCase):
    def assert_form(self, u):
        self.assertIs(type(u), tuple)
        self.assertEqual(len(u), 2)
        top, bottom = u
        self.assertIs(type(top), int)
        self.assertIs(type(bottom), int)
        self.assertGreaterEqual(bottom, 1)
        self.assertEqual(math.gcd(top, bottom), 1)

    def assert_is(self, u, top, bottom):
        """u has the form of a fraction, and is top over bottom by crosswise products."""
        self.assert_form(u)
        self.assertEqual(u[0] * bottom, top * u[1])


class MakingTest(Fractions):
    def test_ordinary(self):
        self.assertEqual(fraction(6, 4), (3, 2))
        self.assertEqual(fraction(-6, 4), (-3, 2))
        self.assertEqual(fraction(6, -4), (-3, 2))
        self.assertEqual(fraction(-6, -4), (3, 2))
        self.assertEqual(fraction(5, 1), (5, 1))
        self.assertEqual(fraction(5, -1), (-5, 1))
        self.assertEqual(fraction(7, 7), (1, 1))
        self.assertEqual(fraction(3, 9), (1, 3))

    def test_nought(self):
        for bottom in SIGNED[1:]:
            with self.subTest(bottom):
                self.assertEqual(fraction(0, bottom), (0, 1))

    def test_sixty_figures_with_a_common_divisor(self):
        top = BROAD * DIVISOR
        bottom = OTHER * DIVISOR
        self.assertEqual((len(str(top)), len(str(bottom))), (60, 60))
        for sign in (1, -1):
            self.assertEqual(fraction(sign * top, bottom), (sign * BROAD, OTHER))
            self.assertEqual(fraction(sign * top, -bottom), (-sign * BROAD, OTHER))

    def test_a_thousand_figures(self):
        great = 7 ** 1182
        self.assertEqual(len(str(great)), 999)
        self.assertEqual(fraction(great * 3, -great * 6), (-1, 2))

    def test_every_sign_and_size(self):
        for top in SIGNED:
            for bottom in SIGNED[1:]:
                with self.subTest(top=top, bottom=bottom):
                    self.assert_is(fraction(top, bottom), top, bottom)


class ReckoningTest(Fractions):
    def test_ordinary(self):
        self.assertEqual(plus((1, 2), (1, 3)), (5, 6))
        self.assertEqual(plus((1, 6), (1, 3)), (1, 2))
        self.assertEqual(plus((1, 2), (-1, 2)), (0, 1))
        self.assertEqual(minus((1, 2), (1, 3)), (1, 6))
        self.assertEqual(minus((1, 3), (1, 2)), (-1, 6))
        self.assertEqual(times((2, 3), (-3, 4)), (-1, 2))
        self.assertEqual(times((0, 1), (-3, 4)), (0, 1))
        self.assertEqual(over((2, 3), (-4, 3)), (-1, 2))
        self.assertEqual(over((-2, 3), (-4, 3)), (1, 2))
        self.assertEqual(over((0, 1), (-4, 3)), (0, 1))

    def test_against_crosswise_products(self):
        for u in SAMPLES:
            for v in SAMPLES:
                with self.subTest(u=u, v=v):
                    a, b = u
                    c, d = v
                    self.assert_is(plus(u, v), a * d + c * b, b * d)
                    self.assert_is(minus(u, v), a * d - c * b, b * d)
                    self.assert_is(times(u, v), a * c, b * d)
                    if c != 0:
                        self.assert_is(over(u, v), a * d, b * c)

    def test_difference_of_alike_ones(self):
        for u in SAMPLES:
            with self.subTest(u):
                self.assertEqual(minus(u, u), (0, 1))

    def test_quotient_of_alike_ones(self):
        for u in SAMPLES:
            if u[0] != 0:
                with self.subTest(u):
                    self.assertEqual(over(u, u), (1, 1))


class ComparingTest(Fractions):
    def test_ordinary(self):
        self.assertIs(is_less((1, 3), (1, 2)), True)
        self.assertIs(is_less((1, 2), (1, 3)), False)
        self.assertIs(is_less((-1, 2), (-1, 3)), True)
        self.assertIs(is_less((-1, 3), (-1, 2)), False)
        self.assertIs(is_less((-1, 2), (0, 1)), True)
        self.assertIs(is_less((0, 1), (-1, 2)), False)
        self.assertIs(is_less((2, 1), (7, 3)), True)

    def test_alike_ones(self):
        for u in SAMPLES:
            with self.subTest(u):
                self.assertIs(is_less(u, u), False)

    def test_against_crosswise_products(self):
        for u in SAMPLES:
            for v in SAMPLES:
                with self.subTest(u=u, v=v):
                    self.assertIs(is_less(u, v), u[0] * v[1] < v[0] * u[1])

    def test_close_ones_of_sixty_figures(self):
        great = 10 ** 60
        self.assertIs(is_less((great, great + 1), (great + 1, great + 2)), True)
        self.assertIs(is_less((great + 1, great + 2), (great, great + 1)), False)


if __name__ == "__main__":
    unittest.main()
