"""Bounds: point 24, and the order of refusals in point 2."""

import copy
import itertools
import unittest

from branchdepth.bounds import discriminant_size, refuse_for_basis, refuse_for_factors
from branchdepth.errors import NoPolynomial, NoPrime, NotPlain, TooDeep
from branchdepth.plains import discriminant
from branchdepth.polys import multiplied
from branchdepth.sizes import size_of_number

PRIMES = (2, 3, 5, 7, 11, 13, 17, 19, 23, 29, 31, 37, 41, 43, 47)

NO_PRIMES = (
    0, 1, -2, 4, 49, 53, 10 ** 999, True, False, None, "", "2", "x" * 2000, [], [2], (), (2,), [[2]], ((2, 3), "a"))
NO_POLYNOMIALS = (
    # Things that are no polynomials at all.
    None, True, False, 0, 1, "", "x", "x^2 + 1", (), (0, 1), (1, 0, 1), [True], [1, True], [False, 1], [None, 1],
    ["1", 1], [[1], 1], [(0,), 1], [0], [1, 0], [0, 1, 0],
    # Not monic.
    [0, 2], [1, 0, -1], [5, 3, 7], [1] * 12 + [2],
    # Of degree 0, nothing, and of degrees above 12.
    [], [1], [-3], [0] * 13 + [1], [1, 1] + [0] * 11 + [1], [1] * 200)


def two_terms(degree, k):
    return [k] + [0] * (degree - 1) + [1]


def of_size(degree, p, size):
    """A polynomial of this degree whose discriminant has this size by p, an even one."""
    f = multiplied([0, 1], [-(p ** (size // 2)), 1])
    extra = 1
    while len(f) - 1 < degree:
        grown = multiplied(f, [-extra, 1])
        if discriminant(grown) != 0 and size_of_number(discriminant(grown), p) == size:
            f = grown
        extra += 1
    return f


class BoundsTest(unittest.TestCase):
    def test_what_is_let_by(self):
        for p in PRIMES:
            with self.subTest(p):
                self.assertEqual(discriminant_size([0, 1], p), 0)
                self.assertEqual(discriminant_size([-p, 0, 1], p), 1 if p > 2 else 3)
                self.assertIsNone(refuse_for_basis([0, 1], p))
                self.assertIsNone(refuse_for_factors([0, 1], p, 1))

    def test_the_degree(self):
        for degree in range(1, 13):
            f = two_terms(degree, 1)
            with self.subTest(degree):
                self.assertEqual(discriminant_size(f, 47), size_of_number(discriminant(f), 47))
        for degree in range(1, 7):
            f = two_terms(degree, 1)
            self.assertIsNone(refuse_for_factors(f, 47, 20))
            self.assertIsNone(refuse_for_basis(f, 47))
        for degree in range(7, 13):
            f = two_terms(degree, 1)
            with self.subTest(degree):
                self.assertRaises(TooDeep, refuse_for_factors, f, 47, 20)
                self.assertRaises(TooDeep, refuse_for_basis, f, 47)
        for degree in (13, 14, 60):
            f = two_terms(degree, 1)
            with self.subTest(degree):
                self.assertRaises(NoPolynomial, discriminant_size, f, 47)
                self.assertRaises(NoPolynomial, refuse_for_factors, f, 47, 20)
                self.assertRaises(NoPolynomial, refuse_for_basis, f, 47)

    def test_the_size_of_the_discriminant(self):
        for p in (2, 3, 47):
            for degree in (2, 3):
                for size in (0, 18, 20, 22, 24, 26, 38, 40, 42, 100):
                    if size == 0 and degree > p:
                        continue
                    f = of_size(degree, p, size)
                    self.assertEqual(size_of_number(discriminant(f), p), size)
                    with self.subTest(p=p, degree=degree, size=size):
                        if size <= 40:
                            self.assertEqual(discriminant_size(f, p), size)
                        else:
                            self.assertRaises(TooDeep, discriminant_size, f, p)
                        if size <= 20:
                            self.assertIsNone(refuse_for_factors(f, p, 20))
                        else:
                            self.assertRaises(TooDeep, refuse_for_factors, f, p, 20)
                        if size <= 24:
                            self.assertIsNone(refuse_for_basis(f, p))
                        else:
                            self.assertRaises(TooDeep, refuse_for_basis, f, p)

    def test_odd_sizes_beside_the_bounds(self):
        # The discriminant of xx - k is 4 k.
        for size in (19, 21, 23, 25, 39, 41):
            f = [-(3 ** size), 0, 1]
            with self.subTest(size):
                if size <= 40:
                    self.assertEqual(discriminant_size(f, 3), size)
                else:
                    self.assertRaises(TooDeep, discriminant_size, f, 3)
                if size <= 20:
                    self.assertIsNone(refuse_for_factors(f, 3, 1))
                else:
                    self.assertRaises(TooDeep, refuse_for_factors, f, 3, 1)
                if size <= 24:
                    self.assertIsNone(refuse_for_basis(f, 3))
                else:
                    self.assertRaises(TooDeep, refuse_for_basis, f, 3)

    def test_the_number_of_figures(self):
        for n in range(1, 21):
            self.assertIsNone(refuse_for_factors([-3, 0, 1], 3, n))
        for n in (0, -1, 21, 22, 10 ** 999, True, False, None, "", "1", [], [1], (), (1,), [[1]]):
            with self.subTest(n):
                self.assertRaises(TooDeep, refuse_for_factors, [-3, 0, 1], 3, n)

    def test_no_prime(self):
        for p in NO_PRIMES:
            with self.subTest(p):
                self.assertRaises(NoPrime, discriminant_size, [-3, 0, 1], p)
                self.assertRaises(NoPrime, refuse_for_factors, [-3, 0, 1], p, 1)
                self.assertRaises(NoPrime, refuse_for_basis, [-3, 0, 1], p)

    def test_no_polynomial(self):
        for f in NO_POLYNOMIALS:
            with self.subTest(f):
                self.assertRaises(NoPolynomial, discriminant_size, f, 3)
                self.assertRaises(NoPolynomial, refuse_for_factors, f, 3, 1)
                self.assertRaises(NoPolynomial, refuse_for_basis, f, 3)

    def test_not_plain(self):
        for f in ([0, 0, 1], [1, 2, 1], multiplied([1, 0, 1], [1, 0, 1]), [0] * 12 + [1]):
            for p in PRIMES:
                with self.subTest(f=f, p=p):
                    self.assertRaises(NotPlain, discriminant_size, f, p)
                    self.assertRaises(NotPlain, refuse_for_factors, f, p, 1)
                    self.assertRaises(NotPlain, refuse_for_basis, f, p)


class OrderTest(unittest.TestCase):
    """Whichever two are due at once: NoPrime, NoPolynomial, NotPlain, TooDeep."""

    def test_no_prime_ahead_of_all(self):
        square = [0] * 7 + [1]
        deep = [-(2 ** 50), 0, 1]
        for p, f in itertools.product(NO_PRIMES, NO_POLYNOMIALS + (square, deep)):
            with self.subTest(p=p, f=f):
                self.assertRaises(NoPrime, discriminant_size, f, p)
                self.assertRaises(NoPrime, refuse_for_factors, f, p, None)
                self.assertRaises(NoPrime, refuse_for_basis, f, p)

    def test_no_polynomial_ahead_of_the_rest(self):
        # With square parts and too deep, were they not of the wrong form.
        for f in ([0, 0, 2], [0] * 13 + [1], [0, 0, -1], [-(2 ** 50)] + [0] * 12 + [1]):
            for n in (0, 21, True, None):
                with self.subTest(f=f, n=n):
                    self.assertRaises(NoPolynomial, discriminant_size, f, 2)
                    self.assertRaises(NoPolynomial, refuse_for_factors, f, 2, n)
                    self.assertRaises(NoPolynomial, refuse_for_basis, f, 2)

    def test_not_plain_ahead_of_too_deep(self):
        # Of a degree above 6, with a number of figures that is none.
        for f in ([0] * 7 + [1], multiplied([0, 0, 1], [2 ** 50, 0, 0, 0, 0, 1])):
            for n in (1, 0, 21, "1"):
                with self.subTest(f=f, n=n):
                    self.assertRaises(NotPlain, discriminant_size, f, 2)
                    self.assertRaises(NotPlain, refuse_for_factors, f, 2, n)
                    self.assertRaises(NotPlain, refuse_for_basis, f, 2)


class OwnTest(unittest.TestCase):
    def test_what_is_handed_in_stays(self):
        for f in ([-3, 0, 1], [0, 0, 1], [0, [1], 2], [1, 0]):
            for p in (3, [3, [4]]):
                handed = copy.deepcopy((f, p, [1]))
                for ask, many in ((discriminant_size, 2), (refuse_for_factors, 3), (refuse_for_basis, 2)):
                    try:
                        ask(*handed[:many])
                    except (NoPrime, NoPolynomial, NotPlain, TooDeep):
                        pass
                self.assertEqual(handed, (f, p, [1]))


if __name__ == "__main__":
    unittest.main()
