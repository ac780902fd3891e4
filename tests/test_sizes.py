"""Primes and sizes: point 5."""

import subprocess
import sys
import unittest
from pathlib import Path

from branchdepth.fractions import fraction, times
from branchdepth.sizes import all_sizes, is_prime, size_of, size_of_number

ROOT = Path(__file__).resolve().parent.parent
PRIMES = (2, 3, 5, 7, 11, 13, 17, 19, 23, 29, 31, 37, 41, 43, 47)

# None of the fifteen primes goes into any of these.
FREE = (1, 53, 59 * 61, 999999937, 53 ** 30)

GREAT_PRIMES = (999999883, 999999893, 999999929, 999999937, 100000007)


def nested(depth):
    thing = [2]
    for turn in range(depth - 1):
        thing = [thing] if turn % 2 else (thing,)
    return thing


NO_PRIMES = (
    1, 0, -1, -2, -3, -47, 4, 6, 9, 15, 25, 49, 51, 53, 59, 97,
    True, False, None,
    "", "2", "3", "two", "x" * 2000,
    [], [2], [3, 5], [[2]], [None, True], [2] * 200,
    (), (2,), (2, 1), ((3,),), (3,) * 200, nested(12),
    2 ** 89 - 1, 10 ** 59 + 7, -(10 ** 60), 10 ** 999,
)


class PrimeTest(unittest.TestCase):
    def test_the_fifteen(self):
        for p in PRIMES:
            with self.subTest(p):
                self.assertIs(is_prime(p), True)

    def test_no_other_number_near(self):
        for k in range(-200, 2500):
            if k not in PRIMES:
                with self.subTest(k):
                    self.assertIs(is_prime(k), False)

    def test_all_else(self):
        for place, thing in enumerate(NO_PRIMES):
            with self.subTest(place=place):
                self.assertIs(is_prime(thing), False)

    def test_changes_nothing(self):
        inner = [3]
        thing = [2, inner, (5, [7])]
        is_prime(thing)
        self.assertEqual(thing, [2, [3], (5, [7])])
        self.assertIs(thing[1], inner)


class SizeOfNumberTest(unittest.TestCase):
    def assert_size(self, told, size):
        self.assertIs(type(told), int)
        self.assertEqual(told, size)

    def test_ordinary(self):
        self.assert_size(size_of_number(24, 2), 3)
        self.assert_size(size_of_number(24, 3), 1)
        self.assert_size(size_of_number(-24, 2), 3)
        self.assert_size(size_of_number(2, 2), 1)
        self.assert_size(size_of_number(47 ** 2, 47), 2)

    def test_powers_of_either_sign(self):
        for p in PRIMES:
            for free in FREE:
                for size in (0, 1, 2, 3, 8, 40):
                    with self.subTest(p=p, free=free, size=size):
                        self.assert_size(size_of_number(free * p ** size, p), size)
                        self.assert_size(size_of_number(-free * p ** size, p), size)

    def test_of_a_thousand_figures(self):
        self.assert_size(size_of_number(3 ** 2000, 3), 2000)
        self.assert_size(size_of_number(-2 ** 3300, 2), 3300)

    def test_not_divided(self):
        for p in PRIMES:
            for k in (1, -1, p + 1, p - 1 if p > 2 else 7, p * p + 1):
                with self.subTest(p=p, k=k):
                    self.assert_size(size_of_number(k, p), 0)

    def test_nought(self):
        for p in PRIMES:
            self.assertIsNone(size_of_number(0, p))

    def test_product(self):
        numbers = (1, -1, 2, -6, 12, 45, -98, 1024, 3 ** 9, -(5 ** 4) * 7, 10 ** 20)
        for p in PRIMES:
            for a in numbers:
                for b in numbers:
                    with self.subTest(p=p, a=a, b=b):
                        self.assert_size(size_of_number(a * b, p),
                                         size_of_number(a, p) + size_of_number(b, p))


class SizeOfFractionTest(unittest.TestCase):
    def test_in_the_top_and_in_the_bottom(self):
        for p in PRIMES:
            for size in (0, 1, 2, 7, 40):
                for sign in (1, -1):
                    with self.subTest(p=p, size=size, sign=sign):
                        self.assertEqual(size_of(fraction(sign * 53 * p ** size, 59), p), size)
                        self.assertEqual(size_of(fraction(sign * 53, 59 * p ** size), p), -size)

    def test_ordinary(self):
        self.assertEqual(size_of((8, 9), 2), 3)
        self.assertEqual(size_of((8, 9), 3), -2)
        self.assertEqual(size_of((-8, 9), 3), -2)
        self.assertEqual(size_of((8, 9), 5), 0)
        self.assertEqual(size_of((1, 1), 2), 0)
        self.assertEqual(size_of((-12, 1), 2), 2)

    def test_nought(self):
        for p in PRIMES:
            self.assertIsNone(size_of((0, 1), p))

    def test_product(self):
        samples = ((1, 1), (-1, 1), (3, 4), (-4, 3), (50, 9), (7, 250), (-1, 1024), (45, 98))
        for p in PRIMES:
            for u in samples:
                for v in samples:
                    with self.subTest(p=p, u=u, v=v):
                        self.assertEqual(size_of(times(u, v), p), size_of(u, p) + size_of(v, p))


def is_any_prime(k):
    """By the definition: no number from 2 up to the root of k goes into it."""
    if k < 2:
        return False
    low = 2
    while low * low <= k:
        if k % low == 0:
            return False
        low += 1
    return True


class AllSizesTest(unittest.TestCase):
    def assert_sizes(self, u):
        told = all_sizes(u)
        self.assertIs(type(told), list)
        top = bottom = 1
        before = 1
        for thing in told:
            self.assertIs(type(thing), tuple)
            prime, size = thing
            self.assertIs(type(prime), int)
            self.assertIs(type(size), int)
            self.assertGreater(prime, before)
            self.assertTrue(is_any_prime(prime), prime)
            self.assertNotEqual(size, 0)
            before = prime
            if size > 0:
                top *= prime ** size
            else:
                bottom *= prime ** -size
        self.assertEqual((top, bottom), (abs(u[0]), u[1]))

    def test_ordinary(self):
        self.assertEqual(all_sizes((12, 1)), [(2, 2), (3, 1)])
        self.assertEqual(all_sizes((-12, 1)), [(2, 2), (3, 1)])
        self.assertEqual(all_sizes((1, 12)), [(2, -2), (3, -1)])
        self.assertEqual(all_sizes((45, 28)), [(2, -2), (3, 2), (5, 1), (7, -1)])
        self.assertEqual(all_sizes((-3, 2)), [(2, -1), (3, 1)])
        self.assertEqual(all_sizes((2, 1)), [(2, 1)])
        self.assertEqual(all_sizes((9, 1)), [(3, 2)])
        self.assertEqual(all_sizes((53, 59)), [(53, 1), (59, -1)])

    def test_of_one(self):
        self.assertEqual(all_sizes((1, 1)), [])
        self.assertEqual(all_sizes((-1, 1)), [])

    def test_small_ones(self):
        for top in list(range(-60, 0)) + list(range(1, 61)):
            for bottom in range(1, 61):
                with self.subTest(top=top, bottom=bottom):
                    self.assert_sizes(fraction(top, bottom))

    def test_nine_figures(self):
        self.assertEqual(all_sizes((-(2 ** 29), 3 ** 18)), [(2, 29), (3, -18)])
        self.assertEqual(all_sizes((31607 * 31607, 1)), [(31607, 2)])
        self.assertEqual(all_sizes((31607 * 31627, 1)), [(31607, 1), (31627, 1)])
        self.assertEqual(all_sizes((2 * 499999993, 5)), [(2, 1), (5, -1), (499999993, 1)])
        self.assert_sizes(fraction(999999999, 999999998))
        self.assert_sizes(fraction(-223092870, 999999937))

    def test_somewhat_beyond(self):
        self.assertEqual(all_sizes((99991 * 99989, 2 ** 40)), [(2, -40), (99989, 1), (99991, 1)])

    def test_agrees_with_each_size(self):
        for u in ((360, 77), (-1001, 1800), (47 ** 5, 43 ** 5), (1, 223092870)):
            told = dict(all_sizes(u))
            for p in PRIMES:
                with self.subTest(u=u, p=p):
                    self.assertEqual(told.get(p, 0), size_of(u, p))

    def test_great_primes(self):
        # In a run of its own: going through all numbers would not come home.
        code = (
            "from branchdepth.sizes import all_sizes\n"
            f"primes = {GREAT_PRIMES!r}\n"
            "for top in primes:\n"
            "    assert all_sizes((top, 1)) == [(top, 1)]\n"
            "    assert all_sizes((-1, top)) == [(top, -1)]\n"
            "    for bottom in primes:\n"
            "        if top != bottom:\n"
            "            asked = sorted([(top, 1), (bottom, -1)])\n"
            "            assert all_sizes((-top, bottom)) == asked\n"
        )
        done = subprocess.run([sys.executable, "-c", code], cwd=ROOT, timeout=60,
                              capture_output=True, text=True)
        self.assertEqual(done.returncode, 0, done.stderr)

    def test_told_list_is_the_askers_own(self):
        for u in ((360, 77), (1, 1), (-999999937, 2)):
            with self.subTest(u):
                told = all_sizes(u)
                kept = list(told)
                told.append((2, 5))
                told[0] = None
                self.assertEqual(all_sizes(u), kept)
                told.clear()
                self.assertEqual(all_sizes(u), kept)
                self.assertIsNot(all_sizes(u), all_sizes(u))


if __name__ == "__main__":
    unittest.main()
