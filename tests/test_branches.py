"""Branches, sizes by them, monomials: points 13 and 14."""

import copy
import itertools
import random
import subprocess
import sys
import unittest
from fractions import Fraction
from pathlib import Path

import tower_samples as samples
from branch_samples import (
    ALL, WITH_A_FIRST_OF_DEGREE_TWO, WITH_FOUR_STEPS, WITH_GREAT_PARTS, WITH_STEPS_OF_DEGREE_ONE, WITH_THREE_STEPS,
    drawn)
from branchdepth.branches import degree_of, monomial, numbers_of, size_by, tower_of
from branchdepth.errors import NoSize
from branchdepth.plains import resultant
from branchdepth.polys import added, multiplied
from branchdepth.sizes import size_of_number
from branchdepth.towers import Tower

ROOT = Path(__file__).resolve().parent.parent


def size_by_hand(kind, f):
    """The least of the sizes of the terms that f is written in, with powers of the keys."""
    p, first, steps = kind
    if not steps:
        return min(Fraction(size_of_number(part, p)) for part in f if part)
    key, size, part = steps[-1]
    found = []
    place = 0
    while f:
        rest = list(f)
        quotient = []
        while len(rest) >= len(key):
            lead = rest[-1]
            quotient.insert(0, lead)
            for at in range(len(key)):
                rest[len(rest) - len(key) + at] -= lead * key[at]
            rest.pop()
        while rest and rest[-1] == 0:
            rest.pop()
        if rest:
            found.append(size_by_hand((p, first, steps[:-1]), rest) + place * Fraction(*size))
        f = quotient
        place += 1
    return min(found)


class NumbersTest(unittest.TestCase):
    def test_degrees_and_numbers(self):
        wanted = (
            (WITH_FOUR_STEPS, [(1, 1), (2, 1), (4, 1), (12, 1), (12, 1)]),
            (WITH_GREAT_PARTS, [(1, 2), (1, 4), (2, 4)]),
            (WITH_THREE_STEPS, [(1, 1), (3, 1), (6, 1), (6, 2)]),
            (WITH_STEPS_OF_DEGREE_ONE, [(1, 1), (1, 1), (2, 1)]),
            (WITH_A_FIRST_OF_DEGREE_TWO, [(1, 2), (2, 2)]),
        )
        for row, numbers in wanted:
            for (kind, key, turns), (one, other) in zip(row, numbers):
                with self.subTest(kind=kind):
                    told = numbers_of(kind)
                    self.assertIs(type(told), tuple)
                    self.assertEqual(told, (one, other))
                    self.assertIs(type(degree_of(kind)), int)
                    self.assertEqual(degree_of(kind), one * other)
                    self.assertEqual(degree_of(kind), len(key) - 1)

    def test_e_is_the_least_that_is_a_sum_of_the_sizes_ahead(self):
        for kind, key, turns in ALL:
            p, first, steps = kind
            product = 1
            for at, (key, size, part) in enumerate(steps):
                # All sums of multiples of 1 and of the sizes ahead, by their rests by 1.
                ahead = {Fraction(0)}
                for other in steps[:at]:
                    ahead = {(low + many * Fraction(*other[1])) % 1 for low in ahead for many in range(12)}
                least = min(many for many in range(1, 13) if many * Fraction(*size) % 1 in ahead)
                self.assertEqual(least, turns[at])
                product *= least
            with self.subTest(kind=kind):
                self.assertEqual(numbers_of(kind)[0], product)


class TowerOfTest(unittest.TestCase):
    def test_towers(self):
        for kind, key, turns in ALL:
            p, first, steps = kind
            with self.subTest(kind=kind):
                tower = tower_of(kind)
                self.assertIsInstance(tower, Tower)
                self.assertEqual(tower.p, p)
                self.assertEqual(tower.parts, [first] + [part for key, size, part in steps])
                self.assertEqual(tower.degree(), numbers_of(kind)[1])


class SizeByTest(unittest.TestCase):
    def assert_size(self, kind, f, wanted):
        told = size_by(kind, f)
        self.assertIs(type(told), tuple)
        self.assertEqual([type(number) for number in told], [int, int])
        self.assertEqual(told, (wanted.numerator, wanted.denominator))

    def test_nothing(self):
        for kind, key, turns in ALL:
            self.assertIsNone(size_by(kind, []))

    def test_without_steps_it_is_the_least_size(self):
        self.assertEqual(size_by((2, [0, 1], []), [4, 8, 2]), (1, 1))
        self.assertEqual(size_by((2, [1, 1, 1], []), [1, 8, 2]), (0, 1))
        self.assertEqual(size_by((3, [0, 1], []), [54]), (3, 1))

    def test_ordinary(self):
        kind = WITH_FOUR_STEPS[1][0]
        self.assertEqual(size_by(kind, [0, 1]), (1, 2))
        self.assertEqual(size_by(kind, [2, 0, 1]), (1, 1))
        self.assertEqual(size_by(kind, [2, 1]), (1, 2))
        self.assertEqual(size_by(kind, [0, 0, 0, 4]), (7, 2))
        self.assertEqual(size_by(kind, [1, 1, 1, 1]), (0, 1))

    def test_numbers_and_keys(self):
        for kind, key, turns in ALL:
            p, first, steps = kind
            for size in (0, 1, 7):
                self.assert_size(kind, [-53 * p ** size], Fraction(size))
            for step_key, size, part in steps:
                with self.subTest(kind=kind, key=step_key):
                    if [other for other, more, rest in steps if len(other) == len(step_key)][-1] == step_key:
                        self.assert_size(kind, step_key, Fraction(*size))

    def test_against_all_terms(self):
        source = random.Random(1)
        for kind, key, turns in ALL:
            for turn in range(30):
                f = drawn(source, kind, source.randrange(25))
                with self.subTest(kind=kind, f=f):
                    self.assert_size(kind, f, size_by_hand(kind, f))

    def test_of_lesser_degree_as_the_resultant_tells(self):
        # By a key of the branch's own degree that belongs to it: the mean of the sizes at all its zeros.
        source = random.Random(2)
        for kind, key, turns in ALL:
            degree = degree_of(kind)
            for turn in range(40):
                f = drawn(source, kind, source.randrange(degree))
                size = size_of_number(resultant(key, f), kind[0])
                with self.subTest(kind=kind, f=f):
                    self.assert_size(kind, f, Fraction(size, degree))

    def test_of_products_the_sum(self):
        source = random.Random(3)
        for kind, key, turns in ALL:
            for turn in range(30):
                f, g = drawn(source, kind, source.randrange(13)), drawn(source, kind, source.randrange(12))
                with self.subTest(kind=kind, f=f, g=g):
                    total = Fraction(*size_by(kind, f)) + Fraction(*size_by(kind, g))
                    self.assert_size(kind, multiplied(f, g), total)

    def test_of_sums_at_least_the_lesser(self):
        source = random.Random(4)
        for kind, key, turns in ALL:
            for turn in range(30):
                f, g = drawn(source, kind, source.randrange(25)), drawn(source, kind, source.randrange(25))
                if added(f, g) == []:
                    continue
                one, other = Fraction(*size_by(kind, f)), Fraction(*size_by(kind, g))
                told = Fraction(*size_by(kind, added(f, g)))
                with self.subTest(kind=kind, f=f, g=g):
                    self.assertGreaterEqual(told, min(one, other))
                    if one != other:
                        self.assertEqual(told, min(one, other))

    def test_sizes_that_there_are(self):
        source = random.Random(5)
        for kind, key, turns in ALL:
            for turn in range(20):
                top, bottom = size_by(kind, drawn(source, kind, source.randrange(25)))
                self.assertEqual(numbers_of(kind)[0] % bottom, 0)


class MonomialTest(unittest.TestCase):
    def assert_monomial(self, kind, turns, u):
        told = monomial(kind, u)
        self.assertIs(type(told), list)
        self.assertEqual(len(told), len(kind[2]) + 1)
        total = Fraction(told[0])
        for number in told:
            self.assertIs(type(number), int)
        for many, turn, (key, size, part) in zip(told[1:], turns, kind[2]):
            self.assertTrue(0 <= many < turn)
            total += many * Fraction(*size)
        self.assertEqual((total.numerator, total.denominator), u)

    def test_ordinary(self):
        self.assertEqual(monomial(WITH_FOUR_STEPS[0][0], (5, 1)), [5])
        self.assertEqual(monomial(WITH_FOUR_STEPS[1][0], (5, 2)), [2, 1])
        self.assertEqual(monomial(WITH_FOUR_STEPS[1][0], (-5, 2)), [-3, 1])
        self.assertEqual(monomial(WITH_FOUR_STEPS[2][0], (1, 4)), [-1, 0, 1])
        self.assertEqual(monomial(WITH_FOUR_STEPS[2][0], (3, 4)), [-1, 1, 1])
        self.assertEqual(monomial(WITH_FOUR_STEPS[2][0], (0, 1)), [0, 0, 0])
        self.assertEqual(monomial(WITH_FOUR_STEPS[4][0], (17, 2)), [8, 1, 0, 0, 0])

    def test_each_size_near_nought(self):
        for kind, key, turns in ALL:
            whole = numbers_of(kind)[0]
            for top in range(-5 * whole, 5 * whole + 1):
                size = Fraction(top, whole)
                with self.subTest(kind=kind, size=size):
                    self.assert_monomial(kind, turns, (size.numerator, size.denominator))

    def test_each_list_is_that_of_its_size(self):
        for kind, key, turns in ALL:
            seen = set()
            for numbers in itertools.product(range(-3, 4), *(range(turn) for turn in turns)):
                size = Fraction(numbers[0])
                for many, (step_key, step_size, part) in zip(numbers[1:], kind[2]):
                    size += many * Fraction(*step_size)
                self.assertNotIn(size, seen)
                seen.add(size)
                with self.subTest(kind=kind, numbers=numbers):
                    self.assertEqual(monomial(kind, (size.numerator, size.denominator)), list(numbers))

    def test_great_numbers_come_home(self):
        # In a run of its own: counting up would not come home.
        code = (
            "import sys\n"
            "sys.path.insert(0, 'tests')\n"
            "from fractions import Fraction\n"
            "import test_branches as known\n"
            "from branchdepth.branches import monomial, numbers_of\n"
            "test = known.MonomialTest()\n"
            "for kind, key, turns in known.ALL:\n"
            "    whole = numbers_of(kind)[0]\n"
            "    for top in (10 ** 30 + 1, -(10 ** 60) - 7, 10 ** 999 + 3, -(10 ** 999)):\n"
            "        size = Fraction(top, whole)\n"
            "        test.assert_monomial(kind, turns, (size.numerator, size.denominator))\n"
        )
        done = subprocess.run([sys.executable, "-c", code], cwd=ROOT, timeout=120, capture_output=True, text=True)
        self.assertEqual(done.returncode, 0, done.stderr)

    def test_no_size(self):
        for kind, key, turns in ALL:
            whole = numbers_of(kind)[0]
            for bottom in range(1, 60):
                for top in (1, -1, 7, 10 ** 60 + 1):
                    size = Fraction(top, bottom)
                    if (size * whole).denominator != 1:
                        with self.subTest(kind=kind, size=size):
                            self.assertRaises(NoSize, monomial, kind, (size.numerator, size.denominator))


class OwnTest(unittest.TestCase):
    """Point 2: nothing handed in is changed or kept, and what is told is the asker's own."""

    def test_own(self):
        for kind, key, turns in ALL:
            handed = copy.deepcopy(kind)
            f = [4, 2, 0, 3, 8]
            with self.subTest(kind=kind):
                first = (degree_of(handed), numbers_of(handed), size_by(handed, f), monomial(handed, (3, 1)))
                tower = tower_of(handed)
                self.assertEqual(handed, kind)
                self.assertEqual(f, [4, 2, 0, 3, 8])
                self.assertTrue(samples.is_own(tower.parts, handed))
                kept = copy.deepcopy(first)
                samples.spoil(first[-1])
                samples.spoil(tower.parts)
                self.assertEqual(handed, kind)
                self.assertEqual((degree_of(kind), numbers_of(kind), size_by(kind, f), monomial(kind, (3, 1))), kept)
                self.assertEqual(tower_of(kind).parts, [kind[1]] + [part for step_key, size, part in kind[2]])
                tower = tower_of(handed)
                one = tower.times(tower.letter(), tower.letter())
                samples.spoil(handed[1])
                samples.spoil(handed[2])
                self.assertEqual(tower.parts, tower_of(kind).parts)
                self.assertEqual(tower.times(tower.letter(), tower.letter()), one)


if __name__ == "__main__":
    unittest.main()
