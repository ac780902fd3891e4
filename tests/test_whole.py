"""The promise over the whole: point 3. Leaves, factors, determinants, index and basis held against one another."""

import itertools
import random
import unittest
from fractions import Fraction

from branchdepth.basis import whole_basis
from branchdepth.factors import enough, factors, roots
from branchdepth.leaves import in_common, index_of, leaf_index, leaf_numbers, leaves
from branchdepth.looker import lets_by
from branchdepth.plains import discriminant, resultant
from branchdepth.polys import value
from branchdepth.sizes import size_of_number
from piece_samples import PIECES, common_sizes, drawn_pieces, moved, product_of, size_of_discriminant
from test_basis import as_fractions, times_by
from tower_samples import PRIMES


def any_polynomials(seed, many, most_degree, most_size):
    """Tuples (f, p) within bounds, for all primes: drawn at random, and products of known pieces."""
    source = random.Random(seed)
    for p in PRIMES:
        for turn in range(many):
            degree = source.randrange(1, most_degree + 1)
            f = [source.randrange(-99, 100) * p ** source.randrange(4) for place in range(degree)] + [1]
            size = size_of_discriminant(f, p)
            if size is not None and size <= most_size:
                yield f, p
    for p in sorted(PIECES):
        for turn in range(many):
            yield product_of([f for f, numbers in drawn_pieces(source, p, most_degree, most_size)]), p


def figures(f, p, n):
    return [number % p ** n for number in f]


def determinant_of(table):
    """The determinant of a table of fractions."""
    rows = [list(row) for row in table]
    told = Fraction(1)
    for place in range(len(rows)):
        lead = [at for at in range(place, len(rows)) if rows[at][place]]
        if not lead:
            return Fraction(0)
        if lead[0] != place:
            rows[place], rows[lead[0]] = rows[lead[0]], rows[place]
            told = -told
        told *= rows[place][place]
        for at in range(place + 1, len(rows)):
            often = rows[at][place] / rows[place][place]
            rows[at] = [number - often * more for number, more in zip(rows[at], rows[place])]
    return told


def trace_by(f, row):
    """The sum of the values of a polynomial with fractions at all zeros of f."""
    degree = len(f) - 1
    units = [[Fraction(int(at == place)) for at in range(degree)] for place in range(degree)]
    return sum(times_by(f, row, unit)[place] for place, unit in enumerate(units))


class WholeTest(unittest.TestCase):
    def test_leaves_of_every_polynomial(self):
        for f, p in any_polynomials(1, 8, 12, 40):
            told = leaves(f, p)
            with self.subTest(f=f, p=p):
                numbers = [leaf_numbers(p, leaf) for leaf in told]
                self.assertEqual(sum(one * other for one, other in numbers), len(f) - 1)
                self.assertIs(lets_by(f, p, told), True)
                # Twice the index goes into the discriminant's size.
                self.assertLessEqual(2 * index_of(p, told), size_of_discriminant(f, p))

    def test_factors_and_leaves(self):
        for f, p in any_polynomials(2, 6, 6, 20):
            told = leaves(f, p)
            most = factors(f, p, 20)
            with self.subTest(f=f, p=p):
                degrees = [one * other for one, other in [leaf_numbers(p, leaf) for leaf in told]]
                self.assertEqual([len(factor) - 1 for factor in most], degrees)
                for n in (1, 6, 20):
                    some = factors(f, p, n)
                    self.assertEqual(figures(product_of(some), p, n), figures(f, p, n))
                    self.assertEqual(some, [figures(factor, p, n) for factor in most])

    def test_what_leaves_have_in_common_as_the_determinant_tells(self):
        # To twenty figures the size of the resultant is seen where it is below twenty.
        seen = 0
        for f, p in any_polynomials(3, 8, 6, 20):
            told, found = leaves(f, p), factors(f, p, 20)
            for at, other in itertools.combinations(range(len(told)), 2):
                with self.subTest(f=f, p=p):
                    common = in_common(p, told[at], told[other])
                    self.assertLess(Fraction(*common), 20)
                    size = size_of_number(resultant(found[at], found[other]), p)
                    self.assertEqual((size, 1), common)
                    seen += size > 0
        self.assertGreater(seen, 20)

    def test_factors_have_no_parts(self):
        # The factor of a leaf, figures far enough, is a polynomial with one leaf, of the same numbers and index.
        for f, p in any_polynomials(4, 4, 6, 18):
            for leaf, factor in zip(leaves(f, p), factors(f, p, 20)):
                with self.subTest(f=f, p=p, factor=factor):
                    alone = leaves(factor, p)
                    self.assertEqual([leaf_numbers(p, one) for one in alone], [leaf_numbers(p, leaf)])
                    self.assertEqual(leaf_index(p, alone[0]), leaf_index(p, leaf))

    def test_the_discriminant_of_the_product(self):
        # The discriminant is that of the factors and the squares of their resultants.
        for f, p in any_polynomials(5, 4, 6, 18):
            told, found = leaves(f, p), factors(f, p, 20)
            size = sum(size_of_number(discriminant(factor), p) for factor in found)
            for one, other in itertools.combinations(told, 2):
                size += 2 * in_common(p, one, other)[0]
            with self.subTest(f=f, p=p):
                self.assertEqual(size, size_of_discriminant(f, p))

    def test_index_and_basis(self):
        for f, p in any_polynomials(6, 5, 6, 24):
            basis = whole_basis(f, p)
            index = index_of(p, leaves(f, p))
            rows = [as_fractions(g, k, p, len(f) - 1) for g, k in basis]
            table = [[trace_by(f, times_by(f, one, other)) for other in rows] for one in rows]
            found = determinant_of(table)
            with self.subTest(f=f, p=p):
                self.assertEqual(sum(k for g, k in basis), index)
                # The basis's own discriminant, by the traces of all products.
                self.assertEqual(found.denominator, 1)
                self.assertEqual(size_of_discriminant(f, p), 2 * index + size_of_number(found.numerator, p))

    def test_the_basis_of_a_product(self):
        source = random.Random(11)
        for p in sorted(PIECES):
            for turn in range(6):
                pieces = drawn_pieces(source, p, 6, 24)
                wanted = sum(k for f, numbers in pieces for g, k in whole_basis(f, p))
                wanted += sum(size for numbers, size in common_sizes(p, pieces))
                f = product_of([f for f, numbers in pieces])
                with self.subTest(f=f, p=p):
                    self.assertEqual(sum(k for g, k in whole_basis(f, p)), wanted)

    def test_polynomials_with_the_same_figures(self):
        source = random.Random(7)
        for f, p in any_polynomials(8, 4, 12, 40):
            near = moved(source, f, p, enough(f, p))
            with self.subTest(f=f, p=p, near=near):
                self.assertNotEqual(discriminant(near), 0)
                one, other = leaves(f, p), leaves(near, p)
                self.assertEqual(sorted(leaf_numbers(p, leaf) for leaf in one),
                                 sorted(leaf_numbers(p, leaf) for leaf in other))
                self.assertEqual(index_of(p, one), index_of(p, other))
                self.assertIs(lets_by(near, p, other), True)

    def test_roots(self):
        seen = 0
        for f, p in any_polynomials(9, 6, 6, 20):
            straight = [leaf for leaf in leaves(f, p) if leaf_numbers(p, leaf) == (1, 1)]
            with self.subTest(f=f, p=p):
                for n in (1, 3, 20):
                    told = roots(f, p, n)
                    self.assertEqual(len(told), len(straight))
                    for root in told:
                        self.assertEqual(value(f, root) % p ** n, 0)
                # Unlike from enough figures on.
                self.assertEqual(len(set(roots(f, p, 20))), len(straight))
                seen += len(straight) > 1
        self.assertGreater(seen, 20)

    def test_no_other_roots(self):
        # Where f is divided by p to a great power there is a root that is near.
        for f, p in any_polynomials(10, 3, 4, 6):
            if p > 5:
                continue
            depth = size_of_discriminant(f, p)
            n = depth + 2
            near = {root % p for root in roots(f, p, 20)}
            with self.subTest(f=f, p=p):
                if p ** n < 20000:
                    for k in range(p ** n):
                        if value(f, k) % p ** n == 0:
                            self.assertIn(k % p, near)


if __name__ == "__main__":
    unittest.main()
