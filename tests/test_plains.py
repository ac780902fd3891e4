"""Determinants, resultants, discriminants: point 7."""

import copy
import itertools
import random
import subprocess
import sys
import unittest
from pathlib import Path

from branchdepth.plains import determinant, discriminant, resultant
from branchdepth.polys import derived, multiplied, scaled, shifted, value

ROOT = Path(__file__).resolve().parent.parent


def sum_over_all_orders(table):
    many = len(table)
    total = 0
    for order in itertools.permutations(range(many)):
        turned = sum(1 for a in range(many) for b in range(a) if order[b] > order[a])
        product = -1 if turned % 2 else 1
        for at, place in enumerate(order):
            product *= table[at][place]
        total += product
    return total


def drawn_table(source, many, bound, noughts=0):
    return [
        [0 if source.randrange(10) < noughts else source.randrange(-bound, bound + 1) for place in range(many)]
        for at in range(many)
    ]


def known_table(source, many):
    """A table made step by step of one whose determinant is the product told with it."""
    product = 1
    table = [[0] * many for at in range(many)]
    for at in range(many):
        lead = source.choice((-3, -2, -1, 1, 2, 5, 7, 10 ** 6 + 3))
        table[at][at] = lead
        product *= lead
        for place in range(at + 1, many):
            table[at][place] = source.randrange(-9, 10)
    for turn in range(3 * many):
        one, other = source.sample(range(many), 2)
        factor = source.randrange(-3, 4)
        if turn % 3 == 0:
            for at in range(many):
                table[at][one] += factor * table[at][other]
        else:
            table[one] = [a + factor * b for a, b in zip(table[one], table[other])]
        if turn % 5 == 0:
            table[one], table[other] = table[other], table[one]
            product = -product
    return table, product


def with_zeros(zeros):
    f = [1]
    for zero in zeros:
        f = multiplied(f, [-zero, 1])
    return f


class DeterminantTest(unittest.TestCase):
    def assert_determinant(self, table, wanted):
        told = determinant(table)
        self.assertIs(type(told), int)
        self.assertEqual(told, wanted)

    def test_ordinary(self):
        self.assert_determinant([], 1)
        self.assert_determinant([[7]], 7)
        self.assert_determinant([[-7]], -7)
        self.assert_determinant([[0]], 0)
        self.assert_determinant([[1, 2], [3, 4]], -2)
        self.assert_determinant([[0, 1], [1, 0]], -1)
        self.assert_determinant([[0, 1, 0], [0, 0, 1], [1, 0, 0]], 1)
        self.assert_determinant([[2, 0, 0], [0, 3, 0], [0, 0, 5]], 30)

    def test_small_ones_against_all_orders(self):
        source = random.Random(1)
        for many in range(6):
            for bound, noughts in ((1, 0), (3, 5), (9, 0), (10 ** 60, 0), (10 ** 60, 4)):
                for turn in range(12):
                    table = drawn_table(source, many, bound, noughts)
                    with self.subTest(table=table):
                        self.assert_determinant(table, sum_over_all_orders(table))

    def test_all_of_size_two_and_three_with_few_numbers(self):
        for numbers in itertools.product((-1, 0, 2), repeat=4):
            table = [list(numbers[:2]), list(numbers[2:])]
            self.assert_determinant(table, sum_over_all_orders(table))
        for numbers in itertools.product((0, 1), repeat=9):
            table = [list(numbers[:3]), list(numbers[3:6]), list(numbers[6:])]
            self.assert_determinant(table, sum_over_all_orders(table))

    def test_orders_alone(self):
        for order in itertools.permutations(range(5)):
            table = [[1 if place == at else 0 for place in range(5)] for at in order]
            self.assert_determinant(table, sum_over_all_orders(table))

    def test_known_products(self):
        source = random.Random(2)
        for many in (2, 3, 6, 9, 13, 20, 25, 26):
            for turn in range(4):
                table, product = known_table(source, many)
                with self.subTest(many=many, turn=turn):
                    self.assert_determinant(table, product)

    def test_a_list_twice(self):
        source = random.Random(3)
        for many in (2, 3, 7, 26):
            for turn in range(4):
                table = drawn_table(source, many, 50)
                one, other = source.sample(range(many), 2)
                table[one] = list(table[other])
                with self.subTest(many=many, turn=turn):
                    self.assert_determinant(table, 0)
                turned = [[row[place] for row in table] for place in range(many)]
                self.assert_determinant(turned, 0)

    def test_products_of_tables(self):
        source = random.Random(4)
        for many in (1, 4, 8):
            a, b = drawn_table(source, many, 99), drawn_table(source, many, 99)
            product = [[sum(a[i][k] * b[k][j] for k in range(many)) for j in range(many)] for i in range(many)]
            self.assert_determinant(product, determinant(a) * determinant(b))

    def test_great_ones_come_home(self):
        # In a run of its own: going through all orders would not come home.
        code = (
            "from branchdepth.plains import determinant\n"
            "for many in (12, 20, 26):\n"
            "    table = [[min(at, place) + 1 for place in range(many)] for at in range(many)]\n"
            "    assert determinant(table) == 1\n"
            "    table = [[(at * at + 3 * place * at + place ** 3 + 7) ** 9 % (10 ** 60 + 7)\n"
            "              for place in range(many)] for at in range(many)]\n"
            "    turned = [[row[place] for row in table] for place in range(many)]\n"
            "    told = determinant(table)\n"
            "    assert told == determinant(turned)\n"
            "    table[0], table[-1] = table[-1], table[0]\n"
            "    assert determinant(table) == -told\n"
        )
        done = subprocess.run([sys.executable, "-c", code], cwd=ROOT, timeout=120, capture_output=True, text=True)
        self.assertEqual(done.returncode, 0, done.stderr)


class ResultantTest(unittest.TestCase):
    def assert_resultant(self, f, g, wanted):
        told = resultant(f, g)
        self.assertIs(type(told), int)
        self.assertEqual(told, wanted)

    def test_ordinary(self):
        self.assert_resultant([-2, 1], [1, 1, 1], 7)
        self.assert_resultant([0, 1], [5, 3], 5)
        self.assert_resultant([1, 0, 1], [0, 1], 1)
        self.assert_resultant([1, 0, 1], [3], 9)
        self.assert_resultant([1, 0, 1], [1, 0, 1], 0)

    def test_product_of_values_at_the_zeros(self):
        source = random.Random(5)
        for degree in range(1, 13):
            for other in (0, 1, 2, 5, 11, 12, 24):
                zeros = [source.randrange(-30, 31) for turn in range(degree)]
                g = [source.randrange(-99, 100) for place in range(other)] + [source.choice((-4, -1, 1, 3))]
                product = 1
                for zero in zeros:
                    product *= value(g, zero)
                with self.subTest(zeros=zeros, g=g):
                    self.assert_resultant(with_zeros(zeros), g, product)

    def test_a_common_zero(self):
        f = with_zeros([3, -5, 8])
        self.assert_resultant(f, multiplied([-8, 1], [2, 7, -3]), 0)

    def test_products(self):
        source = random.Random(6)
        for turn in range(10):
            f, g, h = ([source.randrange(-50, 51) for place in range(degree)] + [1] for degree in (4, 3, 5))
            with self.subTest(f=f, g=g, h=h):
                self.assert_resultant(f, multiplied(g, h), resultant(f, g) * resultant(f, h))
                self.assert_resultant(multiplied(f, g), h, resultant(f, h) * resultant(g, h))
                self.assert_resultant(g, f, (-1) ** (4 * 3) * resultant(f, g))
                self.assert_resultant(h, g, (-1) ** (5 * 3) * resultant(g, h))

    def test_degree_twenty_six(self):
        zeros = list(range(-13, 13))
        g = [1, 1, 2]
        product = 1
        for zero in zeros:
            product *= value(g, zero)
        self.assert_resultant(with_zeros(zeros), g, product)


class DiscriminantTest(unittest.TestCase):
    def assert_discriminant(self, f, wanted):
        told = discriminant(f)
        self.assertIs(type(told), int)
        self.assertEqual(told, wanted)

    def test_ordinary(self):
        self.assert_discriminant([-4, 0, 1], 16)
        self.assert_discriminant([1, 0, 1], -4)
        self.assert_discriminant([1, 1, 1], -3)
        self.assert_discriminant([-1, -2, 1, 1], 49)

    def test_degree_one(self):
        for k in (0, 1, -1, 10 ** 60):
            self.assert_discriminant([k, 1], 1)

    def test_squares_of_differences(self):
        source = random.Random(7)
        for degree in range(1, 13):
            for turn in range(4):
                zeros = source.sample(range(-40, 41), degree)
                product = 1
                for at in range(degree):
                    for ahead in range(at):
                        product *= (zeros[at] - zeros[ahead]) ** 2
                with self.subTest(zeros=zeros):
                    self.assert_discriminant(with_zeros(zeros), product)

    def test_nought_where_two_zeros_are_alike(self):
        source = random.Random(8)
        for degree in range(2, 13):
            zeros = source.sample(range(-40, 41), degree - 1)
            self.assert_discriminant(with_zeros(zeros + [source.choice(zeros)]), 0)
        square = multiplied([1, 1, 1], [1, 1, 1])
        self.assert_discriminant(square, 0)
        self.assert_discriminant(multiplied(square, [7, 0, 1]), 0)
        self.assertNotEqual(discriminant(multiplied([1, 1, 1], [2, 1, 1])), 0)

    def test_three_terms_by_the_known_form(self):
        for degree in range(2, 13):
            for a in (0, 1, -1, 3, -10, 10 ** 20):
                for b in (0, 1, -1, 2, -7, 10 ** 20):
                    f = [b, a] + [0] * (degree - 2) + [1]
                    if degree == 2:
                        f = [b, a, 1]
                    sign = -1 if degree * (degree - 1) // 2 % 2 else 1
                    known = sign * (degree ** degree * b ** (degree - 1)
                                    + (-1) ** (degree - 1) * (degree - 1) ** (degree - 1) * a ** degree)
                    with self.subTest(degree=degree, a=a, b=b):
                        self.assert_discriminant(f, known)

    def test_the_sign_against_the_resultant(self):
        source = random.Random(9)
        for degree in range(1, 13):
            f = [source.randrange(-9, 10) for place in range(degree)] + [1]
            turned = degree * (degree - 1) // 2 % 2 == 1
            told = resultant(f, derived(f))
            with self.subTest(f=f):
                self.assert_discriminant(f, -told if turned else told)

    def test_of_products(self):
        source = random.Random(10)
        for turn in range(10):
            f, g = ([source.randrange(-50, 51) for place in range(degree)] + [1] for degree in (3, 4))
            with self.subTest(f=f, g=g):
                self.assert_discriminant(
                    multiplied(f, g), discriminant(f) * discriminant(g) * resultant(f, g) ** 2)

    def test_shifted_it_is_the_same(self):
        f = [5, -3, 0, 7, 2, 1]
        for c in (1, -4, 1000):
            self.assert_discriminant(shifted(f, c), discriminant(f))


class OwnTest(unittest.TestCase):
    def test_tables_and_lists_stay(self):
        table = [[0, 1, 2], [3, 4, 5], [6, 7, 9]]
        kept = copy.deepcopy(table)
        rows = list(table)
        first = determinant(table)
        self.assertEqual(table, kept)
        for row, same in zip(table, rows):
            self.assertIs(row, same)
        table[0][0] = 1000
        self.assertEqual(determinant(kept), first)
        self.assertNotEqual(determinant(table), first)
        f, g = [2, 3, 1, 1], [5, 4, 3, 2, 6]
        resultant(f, g)
        discriminant(f)
        self.assertEqual((f, g), ([2, 3, 1, 1], [5, 4, 3, 2, 6]))
        self.assertEqual(resultant(f, scaled(2, g)), 8 * resultant(f, g))


if __name__ == "__main__":
    unittest.main()
