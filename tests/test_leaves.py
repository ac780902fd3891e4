"""Leaves, their branches and numbers, what they have in common, the index: points 18, 19, 20 and 24."""

import copy
import itertools
import random
import unittest
from fractions import Fraction

import test_bounds as bounds
import tower_samples as samples
from branchdepth.branches import numbers_of
from branchdepth.errors import NoPolynomial, NoPrime, NotPlain, TooDeep
from branchdepth.keys import is_branch, next_key
from branchdepth.leaves import branch_of, in_common, index_of, leaf_index, leaf_numbers, leaves
from branchdepth.parts import parts_of
from branchdepth.plains import resultant
from branchdepth.polys import added, divided, multiplied, shifted
from branchdepth.sizes import size_of_number
from branchdepth.towers import Tower
from piece_samples import (
    PIECES, common_sizes, drawn_pieces, plain_pieces, product_of, size_of_discriminant, two_terms)

STRAIGHT = [[1], [1]]


def drawn_products(seed, many, most_degree=12, most_size=40):
    """Tuples (p, pieces, their product)."""
    source = random.Random(seed)
    for p in sorted(PIECES):
        for turn in range(many):
            pieces = drawn_pieces(source, p, most_degree, most_size)
            yield p, pieces, product_of([f for f, numbers in pieces])


class LeavesTest(unittest.TestCase):
    def test_the_example_of_the_document(self):
        self.assertEqual(leaves([-4, 0, 1], 2), [
            ([0, 1], [([0, 1], (1, 1), [[1], [1]]), ([2, 1], None, None)]),
            ([0, 1], [([0, 1], (1, 1), [[1], [1]]), ([2, 1], (2, 1), [[1], [1]])])])

    def test_ordinary(self):
        self.assertEqual(leaves([0, 1], 2), [([0, 1], [])])
        self.assertEqual(leaves([-100, 1], 47), [([41, 1], [])])
        self.assertEqual(leaves([1, 0, 1], 5), [([2, 1], []), ([3, 1], [])])
        self.assertEqual(leaves([1, 0, 1], 3), [([1, 0, 1], [])])
        self.assertEqual(leaves([-5, 0, 1], 5), [([0, 1], [([0, 1], (1, 2), [[4], [1]])])])
        self.assertEqual(leaves([-1, 0, 1], 2), [
            ([1, 1], [([1, 1], None, None)]), ([1, 1], [([1, 1], (1, 1), [[1], [1]])])])
        # (xx + 1)(xx + 1) - 3 by 3.
        self.assertEqual(leaves([-2, 0, 2, 0, 1], 3), [
            ([1, 0, 1], [([1, 0, 1], (1, 2), [[2, 0], [1, 0]])])])
        # Two sides, and on the second one two parts.
        self.assertEqual(leaves(product_of([[-25, 1], [-5, 1], [-10, 1]]), 5), [
            ([0, 1], [([0, 1], (2, 1), [[4], [1]])]), ([0, 1], [([0, 1], (1, 1), [[3], [1]])]),
            ([0, 1], [([0, 1], (1, 1), [[4], [1]])])])

    def test_keys_that_are_exchanged(self):
        # At 1 and 17 by 2: from x + 1 on to x + 15, which is 32 and 16 there.
        ahead = [([1, 1], (1, 1), STRAIGHT), ([3, 1], (2, 1), STRAIGHT), ([7, 1], (3, 1), STRAIGHT)]
        self.assertEqual(leaves([17, -18, 1], 2), [
            ([1, 1], ahead + [([15, 1], (5, 1), STRAIGHT)]), ([1, 1], ahead + [([15, 1], (4, 1), STRAIGHT)])])

    def test_a_branch_with_steps_is_gone_into(self):
        # Two keys of degree 2 by 2, both of them Eisenstein, with the square's root in common.
        f = multiplied([2, 0, 1], [10, 0, 1])
        fork = ([0, 1], (1, 2), STRAIGHT)
        self.assertEqual(leaves(f, 2), [
            ([0, 1], [fork, ([2, 0, 1], None, None)]), ([0, 1], [fork, ([2, 0, 1], (3, 1), [[[1]], [[1]]])])])

    def test_the_form(self):
        for p, pieces, f in drawn_products(1, 12):
            with self.subTest(f=f, p=p):
                told = leaves(f, p)
                self.assertIs(type(told), list)
                for leaf in told:
                    self.assertIs(type(leaf), tuple)
                    first, forks = leaf
                    self.assertIs(type(forks), list)
                    for fork in forks:
                        self.assertIs(type(fork), tuple)
                        self.assertEqual(len(fork), 3)
                    self.assertTrue(is_branch(branch_of(p, leaf)))

    def test_products_of_known_pieces_have_their_numbers(self):
        for p, pieces, f in drawn_products(2, 25):
            with self.subTest(f=f, p=p):
                told = [leaf_numbers(p, leaf) for leaf in leaves(f, p)]
                self.assertEqual(sorted(told), sorted(numbers for g, numbers in pieces))
                self.assertEqual(sum(one * other for one, other in told), len(f) - 1)

    def test_each_known_piece_is_one_leaf(self):
        many = 0
        for p in PIECES:
            for f, numbers in PIECES[p]:
                if size_of_discriminant(f, p) <= 40:
                    many += 1
                    with self.subTest(f=f, p=p):
                        told = leaves(f, p)
                        self.assertEqual([leaf_numbers(p, leaf) for leaf in told], [numbers])
        self.assertGreater(many, 200)

    def test_each_prime_and_any_polynomial(self):
        source = random.Random(3)
        for p in samples.PRIMES:
            for turn in range(8):
                degree = source.randrange(1, 13)
                f = [source.randrange(-60, 61) * source.choice((1, p, p * p)) for place in range(degree)] + [1]
                try:
                    told = leaves(f, p)
                except (NotPlain, TooDeep):
                    self.assertIn(size_of_discriminant(f, p), (None,) + tuple(range(41, 1000)))
                    continue
                numbers = [leaf_numbers(p, leaf) for leaf in told]
                with self.subTest(f=f, p=p):
                    self.assertEqual(sum(one * other for one, other in numbers), degree)

    def test_first_parts(self):
        # Each first part goes as often into the rests as its leaves, by their degrees, say; those once have no forks.
        for p, pieces, f in drawn_products(4, 10):
            told = leaves(f, p)
            rests = parts_of(Tower(p, []), [number % p for number in f])
            with self.subTest(f=f, p=p):
                firsts = [first for first, forks in told]
                self.assertEqual([first for first, run in itertools.groupby(firsts)], [part for part, often in rests])
                for part, often in rests:
                    mine = [leaf for leaf in told if leaf[0] == part]
                    degrees = [leaf_numbers(p, leaf) for leaf in mine]
                    self.assertEqual(sum(one * other for one, other in degrees), often * (len(part) - 1))
                    self.assertEqual(often == 1, mine == [(part, [])])

    def test_keys_are_next_keys(self):
        for p, pieces, f in drawn_products(5, 10):
            for first, forks in leaves(f, p):
                for at, (key, size, part) in enumerate(forks):
                    with self.subTest(f=f, p=p, forks=forks):
                        kind = branch_of(p, (first, forks[:at]))
                        self.assertEqual(key, next_key(kind))
                        self.assertEqual(size is None, part is None)
                        self.assertTrue(size is not None or at == len(forks) - 1)
                        if size is None:
                            self.assertEqual(divided(f, key)[1], [])
                        elif at > 0 and len(forks[at - 1][0]) == len(key):
                            self.assertGreater(Fraction(*size), Fraction(*forks[at - 1][1]))

    def test_the_order(self):
        seen = set()
        for p, pieces, f in drawn_products(6, 25):
            for one, other in itertools.combinations(leaves(f, p), 2):
                with self.subTest(f=f, p=p):
                    seen.add(self.why_ahead(one, other))
        self.assertEqual(seen, {"first", "divides", "size", "part"})

    def why_ahead(self, one, other):
        if one[0] != other[0]:
            self.assertLess((len(one[0]), one[0]), (len(other[0]), other[0]))
            return "first"
        fork, later = [pair for pair in zip(one[1], other[1]) if pair[0] != pair[1]][0]
        self.assertEqual(fork[0], later[0])
        self.assertIsNotNone(later[1])
        if fork[1] is None:
            return "divides"
        if fork[1] != later[1]:
            # Slopes rising, so the size falls.
            self.assertGreater(Fraction(*fork[1]), Fraction(*later[1]))
            return "size"
        self.assertLess((len(fork[2]), fork[2]), (len(later[2]), later[2]))
        return "part"

    def test_sizes_of_keys_at_the_zeros(self):
        # Of a piece alone each key that was gone through has the fork's size at its zeros.
        for p in PIECES:
            for f, numbers in PIECES[p]:
                if size_of_discriminant(f, p) <= 40:
                    for key, size, part in leaves(f, p)[0][1]:
                        with self.subTest(f=f, p=p, key=key):
                            if size is None:
                                self.assertEqual(key, f)
                            else:
                                found = Fraction(size_of_number(resultant(f, key), p), len(f) - 1)
                                self.assertEqual(found, Fraction(*size))

    def test_shifted_and_of_contrary_letter(self):
        for p, pieces, f in drawn_products(7, 6):
            numbers = sorted(leaf_numbers(p, leaf) for leaf in leaves(f, p))
            index = index_of(p, leaves(f, p))
            turned = [number if (len(f) - 1 - at) % 2 == 0 else -number for at, number in enumerate(f)]
            for g in (shifted(f, 1), shifted(f, -p), shifted(f, 10 ** 20), turned):
                with self.subTest(f=f, g=g, p=p):
                    self.assertEqual(sorted(leaf_numbers(p, leaf) for leaf in leaves(g, p)), numbers)
                    self.assertEqual(index_of(p, leaves(g, p)), index)


class BranchOfTest(unittest.TestCase):
    def test_ordinary(self):
        one, other = leaves([-4, 0, 1], 2)
        self.assertEqual(branch_of(2, one), (2, [0, 1], []))
        self.assertEqual(leaf_numbers(2, one), (1, 1))
        self.assertEqual(branch_of(2, other), (2, [0, 1], [([2, 1], (2, 1), [[1], [1]])]))
        self.assertEqual(leaf_numbers(2, other), (1, 1))
        self.assertEqual(branch_of(5, ([2, 1], [])), (5, [2, 1], []))
        one, other = leaves(multiplied([2, 0, 1], [10, 0, 1]), 2)
        fork = ([0, 1], (1, 2), STRAIGHT)
        self.assertEqual(branch_of(2, one), (2, [0, 1], [fork]))
        self.assertEqual(leaf_numbers(2, one), (2, 1))
        self.assertEqual(branch_of(2, other), (2, [0, 1], [fork, ([2, 0, 1], (3, 1), [[[1]], [[1]]])]))
        self.assertEqual(leaf_numbers(2, other), (2, 1))

    def test_forks_that_another_of_the_same_degree_follows_are_left_out(self):
        exchanged = 0
        for p, pieces, f in drawn_products(8, 15):
            for leaf in leaves(f, p):
                first, forks = leaf
                last_of_degree = {len(key): (key, size, part) for key, size, part in forks}
                wanted = [fork for fork in last_of_degree.values() if fork[1] is not None]
                exchanged += len(wanted) < len(forks)
                with self.subTest(f=f, p=p, leaf=leaf):
                    kind = branch_of(p, leaf)
                    self.assertEqual(kind, (p, first, wanted))
                    self.assertIs(type(kind), tuple)
                    self.assertIs(type(kind[2]), list)
                    self.assertIs(type(leaf_numbers(p, leaf)), tuple)
                    self.assertEqual(leaf_numbers(p, leaf), numbers_of(kind))
        self.assertGreater(exchanged, 10)


class InCommonTest(unittest.TestCase):
    def test_ordinary(self):
        one, other = leaves([-4, 0, 1], 2)
        self.assertEqual(in_common(2, one, other), (2, 1))
        self.assertEqual(in_common(2, other, one), (2, 1))
        one, other = leaves([17, -18, 1], 2)
        self.assertEqual(in_common(2, one, other), (4, 1))
        one, other = leaves([1, 0, 1], 5)
        self.assertEqual(in_common(5, one, other), (0, 1))
        one, other = leaves(multiplied([2, 0, 1], [10, 0, 1]), 2)
        self.assertEqual(in_common(2, one, other), (6, 1))

    def test_it_is_the_first_fork_that_counts(self):
        # At 3 and 30, and at 6 and 60 or 33 by 3: all of them go on behind the first fork.
        for zeros in ((3, 30, 6, 33), (3, 30, 6, 60)):
            told = leaves(product_of([[-zero, 1] for zero in zeros]), 3)
            self.assertEqual([len(forks) for first, forks in told], [3, 3, 3, 3])
            found = sorted(in_common(3, one, other) for one, other in itertools.combinations(told, 2))
            wanted = sorted((size_of_number(one - other, 3), 1) for one, other in itertools.combinations(zeros, 2))
            self.assertEqual(found, wanted)

    def test_against_the_resultants_of_known_pieces(self):
        above = 0
        for p, pieces, f in drawn_products(9, 25):
            found = []
            for one, other in itertools.combinations(leaves(f, p), 2):
                told = in_common(p, one, other)
                self.assertIs(type(told), tuple)
                self.assertEqual(told[1], 1)
                self.assertEqual(in_common(p, other, one), told)
                found.append((sorted((leaf_numbers(p, one), leaf_numbers(p, other))), told[0]))
            with self.subTest(f=f, p=p):
                self.assertEqual(sorted(found), common_sizes(p, pieces))
            above += any(size for numbers, size in found)
        self.assertGreater(above, 40)


class IndexTest(unittest.TestCase):
    def test_ordinary(self):
        self.assertEqual([leaf_index(2, leaf) for leaf in leaves([-4, 0, 1], 2)], [0, 0])
        self.assertEqual(index_of(2, leaves([-4, 0, 1], 2)), 2)
        self.assertEqual(index_of(2, leaves([17, -18, 1], 2)), 4)
        self.assertEqual(index_of(2, leaves([2, 0, 1], 2)), 0)
        self.assertEqual(index_of(2, leaves([8, 0, 1], 2)), 1)
        self.assertEqual(index_of(2, leaves([3, 0, 1], 2)), 1)
        self.assertEqual(index_of(2, []), 0)
        self.assertIs(type(index_of(2, leaves([3, 0, 1], 2))), int)

    def test_powers_of_one_letter(self):
        # A root of p to the power of k: its powers, divided by p as often as it goes, are a whole basis.
        for p in (2, 3, 5, 47):
            for degree, k in ((2, 1), (2, 3), (2, 5), (3, 2), (3, 4), (5, 3), (7, 2), (5, 7), (12, 1), (11, 2)):
                f = two_terms(degree, -(p ** k))
                if size_of_discriminant(f, p) <= 40:
                    with self.subTest(p=p, degree=degree, k=k):
                        wanted = sum(d * k // degree for d in range(degree))
                        told = leaves(f, p)
                        self.assertEqual(leaf_index(p, told[0]), wanted)
                        self.assertEqual(index_of(p, told), wanted)

    def test_pieces_of_index_nought(self):
        for p in PIECES:
            for f, numbers in plain_pieces(p):
                rests = parts_of(Tower(p, []), [number % p for number in f])
                if len(rests) == 1 and rests[0][1] == 1:
                    self.assertEqual(index_of(p, leaves(f, p)), 0)
        for p in samples.PRIMES:
            for degree in (2, 5, 12):
                f = two_terms(degree, p)
                if size_of_discriminant(f, p) <= 40:
                    self.assertEqual(index_of(p, leaves(f, p)), 0)

    def test_by_the_discriminant_where_p_divides_no_number(self):
        # The size of the whole basis's discriminant is then, for each leaf, the second number times the first less 1.
        many = 0
        for p, pieces, f in drawn_products(10, 25):
            told = leaves(f, p)
            numbers = [leaf_numbers(p, leaf) for leaf in told]
            if any(one % p == 0 for one, other in numbers):
                continue
            many += 1
            wanted = size_of_discriminant(f, p) - sum((one - 1) * other for one, other in numbers)
            with self.subTest(f=f, p=p):
                self.assertEqual(2 * index_of(p, told), wanted)
        self.assertGreater(many, 60)

    def test_of_products_of_known_pieces(self):
        for p, pieces, f in drawn_products(11, 20):
            wanted = sum(index_of(p, leaves(g, p)) for g, numbers in pieces)
            wanted += sum(size for numbers, size in common_sizes(p, pieces))
            told = leaves(f, p)
            with self.subTest(f=f, p=p):
                self.assertEqual(index_of(p, told), wanted)
                self.assertEqual(sum(leaf_index(p, leaf) for leaf in told),
                                 sum(leaf_index(p, leaves(g, p)[0]) for g, numbers in pieces))

    def test_in_any_order(self):
        for p, pieces, f in drawn_products(12, 4):
            told = leaves(f, p)
            self.assertEqual(index_of(p, told[::-1]), index_of(p, told))


class RefusalTest(unittest.TestCase):
    def test_no_prime(self):
        for p in bounds.NO_PRIMES:
            for f in ([-3, 0, 1],) + bounds.NO_POLYNOMIALS:
                with self.subTest(f=f, p=p):
                    self.assertRaises(NoPrime, leaves, f, p)

    def test_no_polynomial(self):
        for f in bounds.NO_POLYNOMIALS + ([0, 0, 2], [0] * 13 + [1], [-(2 ** 50)] + [0] * 12 + [1]):
            with self.subTest(f=f):
                self.assertRaises(NoPolynomial, leaves, f, 2)

    def test_not_plain(self):
        for f in ([0, 0, 1], [1, 2, 1], [0] * 12 + [1], multiplied([0, 0, 1], [2 ** 50, 0, 0, 0, 0, 1])):
            with self.subTest(f=f):
                self.assertRaises(NotPlain, leaves, f, 2)

    def test_too_deep(self):
        for p in (2, 3, 47):
            self.assertEqual(size_of_discriminant(multiplied([0, 1], [-(p ** 20), 1]), p), 40)
            self.assertEqual(len(leaves(multiplied([0, 1], [-(p ** 20), 1]), p)), 2)
            self.assertRaises(TooDeep, leaves, multiplied([0, 1], [-(p ** 21), 1]), p)
        self.assertRaises(TooDeep, leaves, [-(3 ** 41), 0, 1], 3)
        self.assertEqual(len(leaves([-(3 ** 39), 0, 1], 3)), 1)
        self.assertEqual(len(leaves(added(two_terms(2, 2 ** 38 * 3), []), 2)), 1)

    def test_degree_12(self):
        self.assertEqual([leaf_numbers(2, leaf) for leaf in leaves(two_terms(12, -2), 2)], [(12, 1)])
        self.assertEqual(len(leaves(product_of([[-k, 1] for k in range(12)]), 13)), 12)
        self.assertRaises(NoPolynomial, leaves, two_terms(13, -2), 2)


class OwnTest(unittest.TestCase):
    """Point 2: nothing handed in is changed or kept, and what is told is the asker's own."""

    def test_leaves(self):
        for p, pieces, f in drawn_products(13, 6):
            handed = list(f)
            told = leaves(handed, p)
            with self.subTest(f=f, p=p):
                self.assertEqual(handed, f)
                # No list of one leaf is another leaf's, nor f.
                self.assertTrue(samples.is_own(told, handed))
                kept = copy.deepcopy(told)
                samples.spoil(told[0])
                self.assertEqual(told[1:], kept[1:])
                samples.spoil(told)
                self.assertEqual(leaves(handed, p), kept)

    def test_what_comes_out_of_leaves(self):
        for p, pieces, f in drawn_products(14, 4):
            handed = leaves(f, p)
            kept = copy.deepcopy(handed)
            with self.subTest(f=f, p=p):
                index = index_of(p, handed)
                for leaf in handed:
                    kind = branch_of(p, leaf)
                    leaf_numbers(p, leaf)
                    leaf_index(p, leaf)
                    self.assertTrue(samples.is_own(kind, handed))
                    samples.spoil(kind[1])
                    samples.spoil(kind[2])
                self.assertEqual(handed, kept)
                self.assertEqual(index_of(p, handed), index)

    def test_what_is_refused_stays(self):
        for thing in bounds.NO_POLYNOMIALS:
            handed = copy.deepcopy(thing)
            self.assertRaises(NoPolynomial, leaves, handed, 2)
            self.assertEqual(handed, thing)


if __name__ == "__main__":
    unittest.main()
