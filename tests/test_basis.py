"""The whole basis: points 25 and 24."""

import copy
import itertools
import random
import unittest
from fractions import Fraction

import test_bounds as bounds
import tower_samples as samples
from branchdepth.basis import whole_basis
from branchdepth.errors import NoPolynomial, NoPrime, NotPlain, TooDeep
from branchdepth.factors import enough
from branchdepth.leaves import index_of, leaves
from branchdepth.polys import divided, multiplied, shifted
from piece_samples import PIECES, drawn_pieces, moved, product_of, size_of_discriminant, two_terms
from runs import assert_in_time


def drawn_products(seed, many, most_degree=6):
    """Tuples (p, product of known pieces), within the bounds of the basis."""
    source = random.Random(seed)
    for p in sorted(PIECES):
        for turn in range(many):
            yield p, product_of([f for f, numbers in drawn_pieces(source, p, most_degree, 24)])


def as_fractions(g, k, p, degree):
    """What a tuple of the basis stands for: the coefficients of the letter's powers."""
    return [Fraction(number, p ** k) for number in g] + [Fraction(0)] * (degree - len(g))


def times_by(f, one, other):
    """The product of two polynomials with fractions, by f."""
    degree = len(f) - 1
    product = [Fraction(0)] * (2 * degree)
    for at, a in enumerate(one):
        for place, b in enumerate(other):
            product[at + place] += a * b
    for place in reversed(range(degree, 2 * degree)):
        lead = product[place]
        for at in range(degree + 1):
            product[place - degree + at] -= lead * f[at]
    return product[:degree]


def sum_of_basis(basis, p, row):
    """How often each of the basis is taken to come to a row of fractions."""
    left = list(row)
    told = []
    for place in reversed(range(len(row))):
        g, k = basis[place]
        often = left[place] * p ** k
        told.insert(0, often)
        left = [number - often * more for number, more in zip(left, as_fractions(g, k, p, len(row)))]
    return told


def polynomial_of(f, row):
    """The monic polynomial of the degree of f at which a row comes to 0, by f: its coefficients, the lead first."""
    degree = len(f) - 1
    table = [times_by(f, row, [Fraction(int(at == place)) for at in range(degree)]) for place in range(degree)]
    told = [Fraction(1)]
    power = [[Fraction(int(at == place)) for at in range(degree)] for place in range(degree)]
    for many in range(1, degree + 1):
        power = [[sum(power[a][c] * table[c][b] for c in range(degree)) for b in range(degree)]
                 for a in range(degree)]
        told.append(-sum(power[place][place] for place in range(degree)) / many)
        power = [[power[a][b] + (told[-1] if a == b else 0) for b in range(degree)] for a in range(degree)]
    return told


def is_whole(f, row):
    return all(number.denominator == 1 for number in polynomial_of(f, row))


class FormTest(unittest.TestCase):
    def test_ordinary(self):
        self.assertEqual(whole_basis([0, 1], 2), [([1], 0)])
        self.assertEqual(whole_basis([1, 0, 1], 2), [([1], 0), ([0, 1], 0)])
        self.assertEqual(whole_basis([3, 0, 1], 2), [([1], 0), ([1, 1], 1)])
        self.assertEqual(whole_basis([3, 0, 1], 3), [([1], 0), ([0, 1], 0)])
        self.assertEqual(whole_basis([-12, 0, 1], 2), [([1], 0), ([0, 1], 1)])
        self.assertEqual(whole_basis([-25, 0, 0, 1], 5), [([1], 0), ([0, 1], 0), ([0, 0, 1], 1)])
        # Dedekind's own: half of the letter's square and the letter.
        self.assertEqual([k for g, k in whole_basis([-8, -2, -1, 1], 2)], [0, 0, 1])
        # At 0 and 16, and at 1: one is divided by all that the others are, there.
        self.assertEqual([k for g, k in whole_basis(product_of([[0, 1], [-16, 1], [-1, 1]]), 2)], [0, 0, 4])

    def test_the_form(self):
        for p, f in drawn_products(1, 15):
            told = whole_basis(f, p)
            with self.subTest(f=f, p=p):
                self.assertIs(type(told), list)
                self.assertEqual(len(told), len(f) - 1)
                for place, row in enumerate(told):
                    self.assertIs(type(row), tuple)
                    g, k = row
                    self.assertIs(type(g), list)
                    self.assertIs(type(k), int)
                    self.assertGreaterEqual(k, 0)
                    self.assertEqual(len(g), place + 1)
                    self.assertEqual(g[-1], 1)
                    for number in g[:-1]:
                        self.assertIs(type(number), int)
                        self.assertTrue(0 <= number < p ** k)


class WholeTest(unittest.TestCase):
    def test_products_are_sums_of_whole_multiples(self):
        for p, f in drawn_products(2, 10):
            told = whole_basis(f, p)
            rows = [as_fractions(g, k, p, len(f) - 1) for g, k in told]
            with self.subTest(f=f, p=p):
                for one, other in itertools.combinations_with_replacement(rows, 2):
                    often = sum_of_basis(told, p, times_by(f, one, other))
                    self.assertTrue(all(number.denominator == 1 for number in often))

    def test_each_is_whole(self):
        for p, f in drawn_products(3, 6):
            for g, k in whole_basis(f, p):
                with self.subTest(f=f, p=p, g=g, k=k):
                    self.assertTrue(is_whole(f, as_fractions(g, k, p, len(f) - 1)))

    def assert_nothing_beyond(self, f, p):
        # Were there more, something whose p-fold is a sum would be no sum itself: all such are gone through.
        rows = [as_fractions(g, k, p, len(f) - 1) for g, k in whole_basis(f, p)]
        for numbers in itertools.product(range(p), repeat=len(rows)):
            if any(numbers):
                row = [sum(many * one[place] for many, one in zip(numbers, rows)) / p for place in range(len(rows))]
                with self.subTest(f=f, p=p, numbers=numbers):
                    self.assertFalse(is_whole(f, row))

    def test_nothing_lies_beyond(self):
        source = random.Random(4)
        seen = set()
        for p, most in ((2, 5), (3, 3), (5, 2), (7, 2)):
            for turn in range(16):
                f = product_of([piece for piece, numbers in drawn_pieces(source, p, most, 24)])
                seen.add(sum(k for g, k in whole_basis(f, p)))
                self.assert_nothing_beyond(f, p)
        self.assertGreater(len(seen), 4)

    def test_nothing_lies_beyond_of_any_polynomial(self):
        for f in itertools.product(range(-4, 5), (-4, 0, 3), (0, 2)):
            f = list(f) + [1]
            for p in (2, 3):
                size = size_of_discriminant(f, p)
                if size is not None and size > 1:
                    self.assert_nothing_beyond(f, p)


class PowersTest(unittest.TestCase):
    def powers(self, f, p):
        return [k for g, k in whole_basis(f, p)]

    def test_the_sum_is_the_index_of_the_leaves(self):
        source = random.Random(5)
        seen = set()
        for p, f in itertools.chain(drawn_products(6, 25), drawn_products(7, 15, 4)):
            with self.subTest(f=f, p=p):
                total = sum(self.powers(f, p))
                seen.add(total)
                self.assertEqual(total, index_of(p, leaves(f, p)))
                self.assertGreaterEqual(size_of_discriminant(f, p) - 2 * total, 0)
        self.assertGreater(len(seen), 8)
        for p in samples.PRIMES:
            for turn in range(6):
                f = [source.randrange(-60, 61) * source.choice((1, p, p * p)) for place in range(5)] + [1]
                size = size_of_discriminant(f, p)
                if size is not None and size <= 24:
                    with self.subTest(f=f, p=p):
                        self.assertEqual(sum(self.powers(f, p)), index_of(p, leaves(f, p)))

    def test_shifted(self):
        for p, f in drawn_products(8, 6):
            for c in (1, -p, 10 ** 20):
                with self.subTest(f=f, p=p, c=c):
                    self.assertEqual(self.powers(shifted(f, c), p), self.powers(f, p))

    def test_near(self):
        source = random.Random(9)
        for p, f in drawn_products(10, 8):
            near = moved(source, f, p, enough(f, p))
            with self.subTest(f=f, p=p, near=near):
                self.assertEqual(self.powers(near, p), self.powers(f, p))

    def test_powers_of_one_letter(self):
        for p in (2, 3, 5, 47):
            for degree, k in ((2, 1), (2, 3), (2, 5), (3, 2), (3, 4), (5, 3), (6, 1), (4, 3)):
                f = two_terms(degree, -(p ** k))
                if size_of_discriminant(f, p) <= 24:
                    with self.subTest(f=f, p=p):
                        self.assertEqual(self.powers(f, p), [d * k // degree for d in range(degree)])

    def test_comes_home(self):
        # 47 to the power of 12 lower coefficients, and five of them in a row.
        assert_in_time(self, (
            "from branchdepth.basis import whole_basis\n"
            "from branchdepth.polys import multiplied\n"
            "for p in (2, 31, 43, 47):\n"
            "    assert whole_basis(multiplied([-1, 1], [-1 - p ** 12, 1]), p)[-1][1] == 12\n"
            "for p in (31, 43, 47):\n"
            "    f = multiplied([p ** 3, p * p, p, 1], [-p * p, 0, p, 1])\n"
            "    assert sum([k for g, k in whole_basis(f, p)]) > 8\n"
            "f = multiplied([-(10 ** 300), 1], [-(10 ** 300) - 2 ** 12, 1])\n"
            "assert whole_basis(f, 2)[-1][1] == 12\n"))


class RefusalTest(unittest.TestCase):
    def test_no_prime(self):
        for p, f in itertools.product(bounds.NO_PRIMES, bounds.NO_POLYNOMIALS + ([-3, 0, 1], [0, 0, 1])):
            with self.subTest(f=f, p=p):
                self.assertRaises(NoPrime, whole_basis, f, p)

    def test_no_polynomial(self):
        for f in bounds.NO_POLYNOMIALS + ([0, 0, 2], [0] * 13 + [1]):
            with self.subTest(f=f):
                self.assertRaises(NoPolynomial, whole_basis, f, 3)

    def test_not_plain(self):
        for f in ([0, 0, 1], [1, 2, 1], [0] * 7 + [1], [0] * 12 + [1]):
            with self.subTest(f=f):
                self.assertRaises(NotPlain, whole_basis, f, 3)

    def test_too_deep(self):
        for f in (two_terms(7, 1), two_terms(12, 1), multiplied([0, 1], [-(5 ** 13), 1]), [-(5 ** 25), 0, 1]):
            with self.subTest(f=f):
                self.assertRaises(TooDeep, whole_basis, f, 5)

    def test_the_bounds_themselves(self):
        for p in (2, 3, 47):
            f = multiplied([0, 1], [-(p ** 12), 1])
            self.assertEqual(size_of_discriminant(f, p), 24)
            self.assertEqual([k for g, k in whole_basis(f, p)], [0, 12])
        f = product_of([[0, 1], [-(5 ** 12), 1]] + [[k, 1] for k in range(1, 5)])
        self.assertEqual((size_of_discriminant(f, 5), len(f) - 1), (24, 6))
        self.assertEqual([k for g, k in whole_basis(f, 5)], [0, 0, 0, 0, 0, 12])


class OwnTest(unittest.TestCase):
    """Point 2: nothing handed in is changed or kept, and what is told is the asker's own."""

    def test_own(self):
        for p, f in drawn_products(11, 3):
            handed = list(f)
            told = whole_basis(handed, p)
            with self.subTest(f=f, p=p):
                self.assertEqual(handed, f)
                self.assertTrue(samples.is_own(told, handed))
                kept = copy.deepcopy(told)
                for g, k in told:
                    samples.spoil(g)
                told.append(None)
                self.assertEqual(whole_basis(handed, p), kept)
                self.assertEqual(divided(handed, f), ([1], []))


if __name__ == "__main__":
    unittest.main()
