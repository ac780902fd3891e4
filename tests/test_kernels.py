"""Which sums of multiples of rows come to nought: what parts are found by."""

import itertools
import random
import unittest

from branchdepth.kernels import kernel
from branchdepth.sizes import number_power


def summed(rows, factors, p):
    return [sum(factor * row[place] for factor, row in zip(factors, rows)) % p for place in range(len(rows[0]))]


class KernelTest(unittest.TestCase):
    def test_just_the_factors_that_sum_to_nought(self):
        source = random.Random(1)
        for p, many, width in ((2, 1, 1), (2, 4, 3), (2, 5, 5), (3, 3, 4), (3, 4, 2), (5, 3, 3), (7, 2, 2), (47, 2, 1)):
            for turn in range(15):
                rows = [[source.randrange(p) * source.randrange(2) for place in range(width)] for at in range(many)]
                told = kernel(rows, p)
                wanted = {factors for factors in itertools.product(range(p), repeat=many)
                          if not any(summed(rows, factors, p))}
                found = [tuple(summed(told, factors, p)) if told else (0,) * many
                         for factors in itertools.product(range(p), repeat=len(told))]
                with self.subTest(p=p, rows=rows):
                    self.assertEqual(set(found), wanted)
                    # No row among them is a sum of the others.
                    self.assertEqual(len(found), len(set(found)))

    def test_rows_stay(self):
        rows = [[1, 1], [2, 2], [0, 1]]
        self.assertEqual(kernel(rows, 3), [[1, 1, 0]])
        self.assertEqual(rows, [[1, 1], [2, 2], [0, 1]])


class PowerTest(unittest.TestCase):
    def test_number_power(self):
        for k in (-3, 0, 1, 2, 47):
            for n in range(13):
                self.assertEqual(number_power(k, n), k ** n)


if __name__ == "__main__":
    unittest.main()
