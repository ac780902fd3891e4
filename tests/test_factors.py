"""Factors and roots to figures, enough figures: points 21, 22, 23 and 24."""

import copy
import itertools
import random
import unittest
from fractions import Fraction

import test_bounds as bounds
import tower_samples as samples
from branchdepth.errors import NoPolynomial, NoPrime, NotPlain, TooDeep
from branchdepth.factors import enough, factors, roots
from branchdepth.leaves import index_of, leaf_numbers, leaves
from branchdepth.parts import over_poly
from branchdepth.plains import discriminant, resultant
from branchdepth.polys import multiplied, value
from branchdepth.sizes import size_of_number
from branchdepth.towers import Tower
from piece_samples import PIECES, drawn_pieces, moved, product_of, size_of_discriminant, two_terms
from runs import assert_in_time

NO_FIGURES = (
    0, -1, 21, 22, 10 ** 999, -(10 ** 999), True, False, None, "", "1", [], [1], (), (1,), [[1]], ((((1,),),),))


def figures(f, p, n):
    return [number % p ** n for number in f]


def drawn_products(seed, many):
    """Tuples (p, pieces, their product), within the bounds of factors."""
    source = random.Random(seed)
    for p in sorted(PIECES):
        for turn in range(many):
            pieces = drawn_pieces(source, p, 6, 20)
            yield p, pieces, product_of([f for f, numbers in pieces])


class FactorsTest(unittest.TestCase):
    def test_ordinary(self):
        self.assertEqual(factors([0, 1], 2, 1), [[0, 1]])
        self.assertEqual(factors([-1, 1], 3, 4), [[80, 1]])
        # The square roots of 2 by 7 are 108 and 235 to three figures.
        self.assertEqual(factors([-2, 0, 1], 7, 3), [[108, 1], [235, 1]])
        self.assertEqual(factors([-2, 0, 1], 7, 1), [[3, 1], [4, 1]])
        self.assertEqual(factors([-2, 0, 1], 5, 2), [[23, 0, 1]])
        self.assertEqual(factors([-4, 0, 1], 2, 3), [[2, 1], [6, 1]])
        self.assertEqual(factors([-4, 0, 1], 2, 1), [[0, 1], [0, 1]])
        self.assertEqual(factors([8, 0, 0, 1], 2, 4), [[2, 1], [4, 14, 1]])

    def test_known_pieces(self):
        for p, pieces, f in drawn_products(1, 25):
            for n in (1, 3, 20):
                with self.subTest(f=f, p=p, n=n):
                    told = factors(f, p, n)
                    self.assertIs(type(told), list)
                    self.assertEqual(sorted(told), sorted(figures(piece, p, n) for piece, numbers in pieces))

    def test_in_the_order_of_the_leaves(self):
        # Each fork's key has at the zeros of the factor the size that the fork tells.
        for p, pieces, f in drawn_products(2, 25):
            by_figures = {tuple(figures(piece, p, 20)): (piece, numbers) for piece, numbers in pieces}
            for leaf, factor in zip(leaves(f, p), factors(f, p, 20), strict=True):
                piece, numbers = by_figures[tuple(factor)]
                first, forks = leaf
                with self.subTest(f=f, p=p, factor=factor):
                    self.assertEqual(leaf_numbers(p, leaf), numbers)
                    self.assertEqual(over_poly(Tower(p, []), figures(piece, p, 1), first)[1], [])
                    for key, size, part in forks:
                        if size is None:
                            self.assertEqual(key, piece)
                        else:
                            found = Fraction(size_of_number(resultant(piece, key), p), len(piece) - 1)
                            self.assertEqual(found, Fraction(*size))

    def test_any_polynomial(self):
        source = random.Random(3)
        seen = 0
        for p in samples.PRIMES:
            for turn in range(12):
                degree = source.randrange(1, 7)
                f = [source.randrange(-60, 61) * source.choice((1, p, p * p)) for place in range(degree)] + [1]
                size = size_of_discriminant(f, p)
                if size is None or size > 20:
                    continue
                seen += 1
                told = factors(f, p, 20)
                with self.subTest(f=f, p=p):
                    degrees = [one * other for one, other in [leaf_numbers(p, leaf) for leaf in leaves(f, p)]]
                    self.assertEqual([len(factor) - 1 for factor in told], degrees)
                    for factor in told:
                        self.assertEqual(factor[-1], 1)
                        self.assertTrue(all(type(number) is int and 0 <= number < p ** 20 for number in factor))
                    self.assertEqual(figures(product_of(told), p, 20), figures(f, p, 20))
                    for n in (1, 2, 7, 19):
                        fewer = factors(f, p, n)
                        self.assertEqual(fewer, [figures(factor, p, n) for factor in told])
                        self.assertEqual(figures(product_of(fewer), p, n), figures(f, p, n))
        self.assertGreater(seen, 120)

    def test_of_great_numbers(self):
        for p in (2, 3, 47):
            f = product_of([[-(10 ** 200) - p, 1], [10 ** 199 * p + 1, 0, 1], [3 * p, p ** 200, 0, 1]])
            told = factors(f, p, 20)
            with self.subTest(f=f, p=p):
                self.assertEqual(figures(product_of(told), p, 20), figures(f, p, 20))
        told = factors(multiplied([-(10 ** 400), 1], [-(10 ** 400) - 6, 1]), 2, 20)
        self.assertEqual(told, [[0, 1], [2 ** 20 - 6, 1]])

    def test_near_polynomials_have_near_factors(self):
        # With the same figures, far enough, the factors have the same figures to fewer.
        source = random.Random(4)
        for p, pieces, f in drawn_products(5, 5):
            near = moved(source, f, p, 20 + 2 * size_of_discriminant(f, p))
            with self.subTest(f=f, p=p, near=near):
                self.assertEqual(sorted(factors(near, p, 20)), sorted(factors(f, p, 20)))

    def test_twenty_figures_come_home(self):
        assert_in_time(self, (
            "from branchdepth.factors import factors, roots\n"
            "from branchdepth.polys import multiplied\n"
            "for p in (2, 3, 5, 7, 11, 13, 17, 19, 23, 29, 31, 37, 41, 43, 47):\n"
            "    for f in ([p + p * p, p * p, p, p * p, p, p, 1], multiplied([-1 - p, 1], [p * p, p, 0, 1]),\n"
            "              multiplied([1, 1], [-p ** 5 - 7, 1]), [-1, -1, 0, 1], [1 - p, 0, 1]):\n"
            "        told = factors(f, p, 20)\n"
            "        assert len(roots(f, p, 20)) == len([one for one in told if len(one) == 2])\n"))


class RootsTest(unittest.TestCase):
    def test_ordinary(self):
        self.assertEqual(roots([0, 1], 2, 1), [0])
        self.assertEqual(roots([-2, 0, 1], 7, 3), [235, 108])
        self.assertEqual(roots([-2, 0, 1], 5, 9), [])
        self.assertEqual(roots([5, 1], 3, 2), [4])

    def test_two_alike_to_few_figures(self):
        self.assertEqual(roots([-4, 0, 1], 2, 1), [0, 0])
        self.assertEqual(roots([-4, 0, 1], 2, 2), [2, 2])
        self.assertEqual(roots([-4, 0, 1], 2, 3), [6, 2])
        # 0 is none of them, though it is divided by 4 there.
        self.assertEqual(value([-4, 0, 1], 0) % 4, 0)
        self.assertEqual(roots([17, -18, 1], 2, 4), [1, 1])
        self.assertEqual(sorted(roots([17, -18, 1], 2, 5)), [1, 17])
        f = product_of([[-1, 1], [-1 - 3 ** 4, 1], [1, 0, 1]])
        self.assertEqual(roots(f, 3, 4), [1, 1])
        self.assertEqual(sorted(roots(f, 3, 5)), [1, 82])

    def test_known_zeros(self):
        source = random.Random(6)
        for p in samples.PRIMES:
            for turn in range(6):
                zeros = [source.randrange(-(10 ** 9), 10 ** 9) * source.choice((1, p)) for place in range(3)]
                f = product_of([[-zero, 1] for zero in zeros] + [two_terms(2, p)])
                size = size_of_discriminant(f, p)
                if size is None or size > 20:
                    continue
                for n in (1, 2, 20):
                    with self.subTest(f=f, p=p, n=n):
                        self.assertEqual(sorted(roots(f, p, n)), sorted(zero % p ** n for zero in zeros))

    def test_of_the_factors_of_degree_1(self):
        for p, pieces, f in drawn_products(7, 12):
            for n in (1, 4, 20):
                with self.subTest(f=f, p=p, n=n):
                    told = roots(f, p, n)
                    straight = [factor for factor in factors(f, p, n) if len(factor) == 2]
                    self.assertEqual([[-root % p ** n, 1] for root in told], straight)
                    for root in told:
                        self.assertIs(type(root), int)
                        self.assertTrue(0 <= root < p ** n)
                        self.assertEqual(value(f, root) % p ** n, 0)

    def test_no_others_at_every_number_of_figures(self):
        # To so many figures f is divided just at what has the figures of a root, to fewer.
        for f, p in itertools.product(([-4, 0, 1], [17, -18, 1], [-2, 0, 0, 1], [0, -1, 0, 1], [6, -5, 1]), (2, 3, 5)):
            depth = size_of_discriminant(f, p)
            n = depth + 2
            at = {k % p for k in range(p ** n) if value(f, k) % p ** n == 0}
            with self.subTest(f=f, p=p):
                self.assertEqual(at, set(roots(f, p, 1)))


class EnoughTest(unittest.TestCase):
    def test_ordinary(self):
        self.assertEqual(enough([0, 1], 2), 1)
        self.assertEqual(enough([-4, 0, 1], 2), 5)
        self.assertEqual(enough([-4, 0, 1], 3), 1)
        self.assertEqual(enough(multiplied([0, 1], [-(2 ** 20), 1]), 2), 41)
        self.assertEqual(enough(two_terms(12, -2), 2), 36)
        self.assertIs(type(enough([-4, 0, 1], 2)), int)

    def test_one_more_than_the_discriminant(self):
        source = random.Random(8)
        for p in PIECES:
            for turn in range(10):
                f = product_of([piece for piece, numbers in drawn_pieces(source, p)])
                self.assertEqual(enough(f, p), size_of_number(discriminant(f), p) + 1)

    def test_near_ones_are_alike(self):
        source = random.Random(9)
        for p in PIECES:
            for turn in range(10):
                f = product_of([piece for piece, numbers in drawn_pieces(source, p)])
                near = moved(source, f, p, enough(f, p))
                with self.subTest(f=f, near=near, p=p):
                    one, other = leaves(f, p), leaves(near, p)
                    self.assertEqual(sorted(leaf_numbers(p, leaf) for leaf in one),
                                     sorted(leaf_numbers(p, leaf) for leaf in other))
                    self.assertEqual(index_of(p, one), index_of(p, other))
                    self.assertEqual(enough(near, p), enough(f, p))


class RefusalTest(unittest.TestCase):
    def asked(self, f, p, n=1):
        return ((factors, (f, p, n)), (roots, (f, p, n)), (enough, (f, p)))

    def test_no_prime(self):
        for p, f in itertools.product(bounds.NO_PRIMES, bounds.NO_POLYNOMIALS + ([-3, 0, 1], [0, 0, 1])):
            for ask, handed in self.asked(f, p, None):
                with self.subTest(ask=ask, f=f, p=p):
                    self.assertRaises(NoPrime, ask, *handed)

    def test_no_polynomial(self):
        for f, n in itertools.product(bounds.NO_POLYNOMIALS + ([0, 0, 2], [0] * 13 + [1]), (1, 0, None)):
            for ask, handed in self.asked(f, 3, n):
                with self.subTest(ask=ask, f=f):
                    self.assertRaises(NoPolynomial, ask, *handed)

    def test_not_plain(self):
        for f, n in itertools.product(([0, 0, 1], [1, 2, 1], [0] * 7 + [1], [0] * 12 + [1]), (1, 0, "1")):
            for ask, handed in self.asked(f, 3, n):
                with self.subTest(ask=ask, f=f):
                    self.assertRaises(NotPlain, ask, *handed)

    def test_too_deep(self):
        for n in NO_FIGURES:
            for ask in (factors, roots):
                with self.subTest(ask=ask, n=n):
                    self.assertRaises(TooDeep, ask, [-3, 0, 1], 3, n)
        for f in (two_terms(7, 1), two_terms(12, 1), multiplied([0, 1], [-(5 ** 11), 1]), [-(5 ** 21), 0, 1]):
            for ask in (factors, roots):
                with self.subTest(ask=ask, f=f):
                    self.assertRaises(TooDeep, ask, f, 5, 1)
        self.assertRaises(TooDeep, enough, multiplied([0, 1], [-(5 ** 21), 1]), 5)
        self.assertRaises(TooDeep, enough, [-(5 ** 41), 0, 1], 5)

    def test_the_bounds_themselves(self):
        for p in (2, 3, 47):
            f = multiplied([0, 1], [-(p ** 10), 1])
            self.assertEqual(size_of_discriminant(f, p), 20)
            self.assertEqual(sorted(roots(f, p, 20)), [0, p ** 10])
            self.assertEqual(sorted(factors(f, p, 20)), [[0, 1], [p ** 20 - p ** 10, 1]])
            self.assertEqual(len(factors(two_terms(6, p), p, 20)), 1)
        self.assertEqual(enough(multiplied([0, 1], [-(5 ** 20), 1]), 5), 41)
        self.assertEqual(enough(two_terms(12, 5), 5), 12)


class OwnTest(unittest.TestCase):
    """Point 2: nothing handed in is changed or kept, and what is told is the asker's own."""

    def test_own(self):
        for p, pieces, f in drawn_products(10, 4):
            handed = list(f)
            told = (factors(handed, p, 5), roots(handed, p, 5), enough(handed, p))
            with self.subTest(f=f, p=p):
                self.assertEqual(handed, f)
                self.assertTrue(samples.is_own(told, handed))
                kept = copy.deepcopy(told)
                for one in told[0]:
                    samples.spoil(one)
                told[0].append(7)
                told[1].append(7)
                self.assertEqual((factors(handed, p, 5), roots(handed, p, 5), enough(handed, p)), kept)
        for n in NO_FIGURES:
            handed = copy.deepcopy(n)
            self.assertRaises(TooDeep, factors, [-3, 0, 1], 3, handed)
            self.assertEqual(handed, n)


if __name__ == "__main__":
    unittest.main()
