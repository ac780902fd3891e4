"""Lattices, for the program's own use: triangular rows that span what rows and multiples of a power of p span."""

import copy
import itertools
import random
import unittest

from branchdepth.lattices import back_by, coordinates, summed, triangular


def all_sums(rows, power):
    """All sums of multiples of the rows, by rests of the power."""
    told = {tuple([0] * len(rows[0]))}
    for row in rows:
        told = {tuple((a + many * b) % power for a, b in zip(one, row)) for one in told for many in range(power)}
    return told


class LatticesTest(unittest.TestCase):
    def test_back(self):
        for p, depth in ((2, 1), (2, 5), (3, 3), (47, 2)):
            power = p ** depth
            for k in range(1, min(power, 300)):
                if k % p:
                    self.assertEqual(back_by(k, power) * k % power, 1)
                    self.assertTrue(0 < back_by(k, power) < power)

    def test_triangular(self):
        source = random.Random(1)
        for p, depth, width in ((2, 1, 3), (2, 3, 2), (2, 2, 3), (3, 2, 2), (3, 1, 3), (5, 1, 2), (5, 2, 2)):
            power = p ** depth
            for turn in range(40):
                rows = [[source.randrange(-40, 40) * source.choice((1, p)) for place in range(width)]
                        for many in range(source.randrange(1, 4))]
                kept = copy.deepcopy(rows)
                told = triangular(rows, p, depth)
                with self.subTest(rows=rows, p=p, depth=depth):
                    self.assertEqual(rows, kept)
                    self.assertEqual(len(told), width)
                    for place, row in enumerate(told):
                        self.assertIn(row[place], [p ** size for size in range(depth + 1)])
                        self.assertEqual(row[place + 1:], [0] * (width - place - 1))
                    self.assertEqual(all_sums(told, power), all_sums(rows, power))
                    # Just as many rows are sums of these as there are by their places.
                    many = 1
                    for place, row in enumerate(told):
                        many *= power // row[place]
                    self.assertEqual(len(all_sums(rows, power)), many)

    def test_coordinates(self):
        lattice = [[4, 0, 0], [2, 2, 0], [1, 0, 1]]
        for numbers in itertools.product(range(-3, 4), repeat=3):
            row = summed(numbers, lattice)
            self.assertEqual(coordinates(lattice, row), list(numbers))
        self.assertEqual(summed([1, -1, 2], lattice), [4, -2, 2])


if __name__ == "__main__":
    unittest.main()
