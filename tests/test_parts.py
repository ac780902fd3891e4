"""Polynomials over a tower, and their parts: points 9 and 10."""

import copy
import itertools
import random
import subprocess
import sys
import unittest
from pathlib import Path

import tower_samples as samples
from branchdepth.parts import common_poly, is_alone, over_poly, parts_of, times_poly
from branchdepth.towers import Tower

ROOT = Path(__file__).resolve().parent.parent

# Towers with so few elements that all polynomials of some degrees can be gone through, and these degrees.
FEW = (
    (2, [], 6), (3, [], 4), (5, [], 3), (7, [], 2), (2, [[0, 1]], 4), (2, [[1, 1, 1]], 3), (2, [[1, 0, 1, 1]], 2),
    (3, [[2, 1, 1]], 2), (3, [[2, 1], [[1], [1]]], 3), (2, [[0, 1], [[1], [1], [1]]], 3),
    (2, [[1, 1, 1], [[1, 1], [1, 0]]], 3),
)


def drawn_poly(source, p, parts, degree, monic=False):
    """A polynomial over the tower of just this degree, [] for -1."""
    if degree < 0:
        return []
    nought = samples.nought_by_hand(parts)
    last = samples.one_by_hand(parts) if monic else nought
    while last == nought:
        last = samples.drawn(source, p, parts)
    return [samples.drawn(source, p, parts) for place in range(degree)] + [last]


def product_by_hand(p, parts, f, g):
    told = [samples.nought_by_hand(parts) for place in range(max(len(f) + len(g) - 1, 0))]
    for at, one in enumerate(f):
        for behind, other in enumerate(g):
            term = samples.times_by_hand(p, parts, one, other)
            told[at + behind] = samples.sum_by_hand(p, parts, told[at + behind], term)
    return told if f and g else []


def sum_of_polys(p, parts, f, g):
    nought = samples.nought_by_hand(parts)
    told = [samples.sum_by_hand(p, parts, one, other)
            for one, other in itertools.zip_longest(f, g, fillvalue=nought)]
    while told and told[-1] == nought:
        told.pop()
    return told


def power_of(p, parts, f, many):
    told = [samples.one_by_hand(parts)]
    for turn in range(many):
        told = product_by_hand(p, parts, told, f)
    return told


def all_monic(p, parts, degree):
    for lower in itertools.product(list(samples.all_of(p, parts)), repeat=degree):
        yield copy.deepcopy(list(lower)) + [samples.one_by_hand(parts)]


def frozen(thing):
    return tuple(frozen(inner) for inner in thing) if isinstance(thing, list) else thing


def all_parted(p, parts, most):
    """By going through all monic polynomials: a dict from each, frozen, to its parts with how often each goes."""
    told = {}
    alone = []
    for degree in range(1, most + 1):
        for low in alone:
            for f in list(all_monic(p, parts, degree - (len(low) - 1))) if len(low) <= degree else []:
                known = dict(told[frozen(f)])
                known[frozen(low)] = known.get(frozen(low), 0) + 1
                told[frozen(product_by_hand(p, parts, low, f))] = known
        for f in all_monic(p, parts, degree):
            if frozen(f) not in told:
                told[frozen(f)] = {frozen(f): 1}
                alone.append(f)
    return told


class ProductTest(unittest.TestCase):
    def test_against_products_by_hand(self):
        source = random.Random(1)
        for p, parts in samples.ALL:
            tower = Tower(p, parts)
            degrees = (-1, 0, 1, 2, 3) if tower.degree() < 4 else (-1, 0, 1, 2)
            some = [drawn_poly(source, p, parts, degree) for degree in degrees]
            for f in some:
                for g in some:
                    with self.subTest(p=p, parts=parts, f=f, g=g):
                        self.assertEqual(times_poly(tower, f, g), product_by_hand(p, parts, f, g))


class OverTest(unittest.TestCase):
    def assert_over(self, p, parts, f, g):
        tower = Tower(p, parts)
        told = over_poly(tower, f, g)
        self.assertIs(type(told), tuple)
        quotient, rest = told
        self.assertLess(len(rest), len(g))
        for poly in told:
            self.assertIs(type(poly), list)
            for term in poly:
                self.assertTrue(tower.is_element(term))
            self.assertTrue(not poly or poly[-1] != tower.zero())
        self.assertEqual(sum_of_polys(p, parts, product_by_hand(p, parts, quotient, g), rest), f)

    def test_put_together_again(self):
        source = random.Random(2)
        for p, parts in samples.ALL:
            top = 6 if samples.degree_by_hand(parts) < 4 else 2
            for degree in (-1, 0, 1, top):
                for other in (0, 1, top):
                    for monic in (True, False):
                        f = drawn_poly(source, p, parts, degree)
                        g = drawn_poly(source, p, parts, other, monic)
                        with self.subTest(p=p, parts=parts, f=f, g=g):
                            self.assert_over(p, parts, f, g)

    def test_degree_twelve(self):
        source = random.Random(3)
        for p in samples.PRIMES:
            for other in (0, 1, 5, 11, 12):
                f, g = drawn_poly(source, p, [], 12), drawn_poly(source, p, [], other)
                with self.subTest(p=p, other=other):
                    self.assert_over(p, [], f, g)

    def test_products_leave_nothing(self):
        source = random.Random(4)
        for p, parts in samples.SMALL:
            tower = Tower(p, parts)
            f, g = drawn_poly(source, p, parts, 3), drawn_poly(source, p, parts, 2)
            self.assertEqual(over_poly(tower, product_by_hand(p, parts, f, g), g), (f, []))

    def test_ordinary(self):
        self.assertEqual(over_poly(Tower(5, []), [1, 0, 1], [3, 1]), ([2, 1], []))
        self.assertEqual(over_poly(Tower(5, []), [1, 0, 1], [1, 2]), ([1, 3], []))
        self.assertEqual(over_poly(Tower(7, []), [1, 0, 1], [1, 2]), ([5, 4], [3]))
        self.assertEqual(over_poly(Tower(7, []), [], [1, 2]), ([], []))
        self.assertEqual(over_poly(Tower(7, []), [4, 2], [2]), ([2, 1], []))


class CommonTest(unittest.TestCase):
    def test_ordinary(self):
        tower = Tower(7, [])
        self.assertEqual(common_poly(tower, [6, 0, 1], [1, 2, 1]), [1, 1])
        self.assertEqual(common_poly(tower, [5, 0, 2], [3, 3]), [1, 1])
        self.assertEqual(common_poly(tower, [1, 1], [2, 1]), [1])
        self.assertEqual(common_poly(tower, [3], [0, 2]), [1])
        self.assertEqual(common_poly(tower, [], [4, 0, 2]), [2, 0, 1])
        self.assertEqual(common_poly(tower, [4, 0, 2], []), [2, 0, 1])
        self.assertEqual(common_poly(tower, [], [5]), [1])

    def test_against_all_that_divide(self):
        source = random.Random(5)
        for p, parts, most in FEW:
            tower = Tower(p, parts)
            for turn in range(12):
                low = drawn_poly(source, p, parts, source.randrange(0, 2))
                f = product_by_hand(p, parts, low, drawn_poly(source, p, parts, source.randrange(0, most)))
                g = product_by_hand(p, parts, low, drawn_poly(source, p, parts, source.randrange(0, most)))
                told = common_poly(tower, f, g)
                best = [tower.one()]
                for degree in range(1, min(len(f), len(g))):
                    for d in all_monic(p, parts, degree):
                        if over_poly(tower, f, d)[1] == [] and over_poly(tower, g, d)[1] == []:
                            best = d
                with self.subTest(p=p, parts=parts, f=f, g=g):
                    self.assertEqual(told, best)

    def test_of_great_towers(self):
        source = random.Random(6)
        for p, parts in samples.GREAT:
            tower = Tower(p, parts)
            low = drawn_poly(source, p, parts, 1, True)
            one, other = drawn_poly(source, p, parts, 1), drawn_poly(source, p, parts, 1)
            f, g = product_by_hand(p, parts, low, one), product_by_hand(p, parts, low, other)
            self.assertEqual(common_poly(tower, one, other), [tower.one()])
            with self.subTest(p=p, parts=parts):
                self.assertEqual(common_poly(tower, f, g), low)
                self.assertEqual(common_poly(tower, f, f), common_poly(tower, f, []))


class AllPolynomialsTest(unittest.TestCase):
    """Over small towers, against going through all monic polynomials."""

    def test_alone_and_parts(self):
        for p, parts, most in FEW:
            tower = Tower(p, parts)
            for key, known in all_parted(p, parts, most).items():
                f = melted(key)
                wanted = sorted(((melted(part), many) for part, many in known.items()),
                                key=lambda pair: (len(pair[0]), pair[0]))
                with self.subTest(p=p, parts=parts, f=f):
                    self.assertIs(is_alone(tower, f), wanted == [(f, 1)])
                    self.assertEqual(parts_of(tower, f), wanted)


def melted(thing):
    return [melted(inner) for inner in thing] if isinstance(thing, tuple) else thing


class IsAloneTest(unittest.TestCase):
    def test_what_has_no_degree_or_is_not_monic(self):
        for p, parts in samples.ALL:
            tower = Tower(p, parts)
            source = random.Random(7)
            with self.subTest(p=p, parts=parts):
                self.assertIs(is_alone(tower, []), False)
                self.assertIs(is_alone(tower, [tower.one()]), False)
                if p ** tower.degree() > 2:
                    other = tower.one()
                    while other in (tower.one(), tower.zero()):
                        other = samples.drawn(source, p, parts)
                    self.assertIs(is_alone(tower, [other]), False)
                    self.assertIs(is_alone(tower, [tower.zero(), other]), False)
                    self.assertIs(is_alone(tower, [tower.one(), other]), False)

    def test_multiples_of_an_alone_one_are_not(self):
        self.assertIs(is_alone(Tower(3, []), [1, 0, 1]), True)
        self.assertIs(is_alone(Tower(3, []), [2, 0, 2]), False)

    def test_degree_one(self):
        source = random.Random(8)
        for p, parts in samples.ALL:
            tower = Tower(p, parts)
            for u in (tower.zero(), tower.one(), samples.drawn(source, p, parts)):
                with self.subTest(p=p, parts=parts, u=u):
                    self.assertIs(is_alone(tower, [u, tower.one()]), True)

    def test_squares_by_their_powers(self):
        # yy - u is alone just where u is no square: u to half the power of all but nought is not one.
        source = random.Random(9)
        for p, parts in samples.ALL:
            tower = Tower(p, parts)
            if p == 2 or 2 * tower.degree() > 12:
                continue
            half = (p ** tower.degree() - 1) // 2
            for turn in range(6):
                u = samples.drawn(source, p, parts)
                f = [tower.minus(tower.zero(), u), tower.zero(), tower.one()]
                wanted = u != tower.zero() and tower.power(u, half) != tower.one()
                with self.subTest(p=p, parts=parts, u=u):
                    self.assertIs(is_alone(tower, f), wanted)

    def test_products_are_not(self):
        source = random.Random(10)
        for p, parts in samples.ALL:
            tower = Tower(p, parts)
            for one, other in ((1, 1), (1, 2), (2, 2), (3, 5), (6, 6)):
                if (one + other) * tower.degree() > 12:
                    continue
                f = product_by_hand(
                    p, parts, drawn_poly(source, p, parts, one, True), drawn_poly(source, p, parts, other, True))
                with self.subTest(p=p, parts=parts, f=f):
                    self.assertIs(is_alone(tower, f), False)

    def test_parts_of_the_samples_are(self):
        for p, parts in samples.SMALL + samples.GREAT:
            for many in range(len(parts)):
                with self.subTest(p=p, parts=parts, many=many):
                    self.assertIs(is_alone(Tower(p, parts[:many]), parts[many]), True)

    def test_products_of_alone_ones_of_one_degree(self):
        # By these the letter to the great power is the letter: only the lesser powers tell.
        for p, one, other in ((2, [1, 1, 0, 1], [1, 0, 1, 1]), (3, [1, 0, 1], [2, 1, 1]), (5, [2, 0, 1], [3, 0, 1])):
            tower = Tower(p, [])
            f = product_by_hand(p, [], one, other)
            self.assertIs(is_alone(tower, one), True)
            self.assertIs(is_alone(tower, other), True)
            self.assertIs(is_alone(tower, f), False)
        tower = Tower(2, [])
        f = product_by_hand(2, [], [0, 1], product_by_hand(2, [], [1, 1], [1, 1, 1]))
        self.assertIs(is_alone(tower, f), False)
        # Parts of degrees 1, 1, 2, 2 in degree 6, and of 1 and 5, 2 and 4, 3 and 3.
        tower = Tower(3, [])
        alone = {1: [[0, 1], [1, 1]], 2: [[1, 0, 1], [2, 1, 1]], 3: [[1, 2, 0, 1], [2, 2, 0, 1]]}
        for degrees in ((1, 1, 2, 2), (3, 3), (1, 2, 3)):
            taken = {1: 0, 2: 0, 3: 0}
            f = [1]
            for degree in degrees:
                f = product_by_hand(3, [], f, alone[degree][taken[degree]])
                taken[degree] += 1
            with self.subTest(degrees=degrees):
                self.assertIs(is_alone(tower, f), False)


class PartsOfTest(unittest.TestCase):
    def assert_parts(self, p, parts, f):
        tower = Tower(p, parts)
        told = parts_of(tower, f)
        self.assertIs(type(told), list)
        product = [tower.one()]
        for thing in told:
            self.assertIs(type(thing), tuple)
            part, many = thing
            self.assertIs(type(part), list)
            self.assertIs(type(many), int)
            self.assertGreaterEqual(many, 1)
            self.assertIs(is_alone(tower, part), True)
            for turn in range(many):
                product = times_poly(tower, product, part)
        self.assertEqual(product, f)
        order = [(len(part), part) for part, many in told]
        self.assertEqual(order, sorted(order))
        for one, other in zip(order, order[1:]):
            self.assertNotEqual(one, other)
        return told

    def test_ordinary(self):
        self.assertEqual(parts_of(Tower(2, []), [0, 0, 1]), [([0, 1], 2)])
        self.assertEqual(parts_of(Tower(2, []), [1, 0, 1]), [([1, 1], 2)])
        self.assertEqual(parts_of(Tower(2, []), [0, 1, 1]), [([0, 1], 1), ([1, 1], 1)])
        self.assertEqual(parts_of(Tower(5, []), [1, 0, 1]), [([2, 1], 1), ([3, 1], 1)])
        self.assertEqual(parts_of(Tower(3, []), [1, 0, 1]), [([1, 0, 1], 1)])
        self.assertEqual(parts_of(Tower(3, [[1, 0, 1]]), [[1, 0], [0, 0], [1, 0]]),
                         [([[0, 1], [1, 0]], 1), ([[0, 2], [1, 0]], 1)])

    def test_drawn_ones_of_each_degree(self):
        source = random.Random(11)
        for p, parts in samples.ALL:
            for degree in range(1, 12 // samples.degree_by_hand(parts) + 1):
                f = drawn_poly(source, p, parts, degree, True)
                with self.subTest(p=p, parts=parts, f=f):
                    self.assert_parts(p, parts, f)

    def test_of_known_zeros(self):
        source = random.Random(12)
        for p, parts in samples.ALL:
            nought, one = samples.nought_by_hand(parts), samples.one_by_hand(parts)
            for turn in range(3):
                degree = 12 // samples.degree_by_hand(parts)
                zeros = [samples.drawn(source, p, parts)]
                while len(zeros) < degree:
                    zeros.append(source.choice(zeros) if source.randrange(2) else samples.drawn(source, p, parts))
                f = [one]
                known = []
                for zero in zeros:
                    part = [samples.sum_by_hand(p, parts, nought, zero, -1), one]
                    f = product_by_hand(p, parts, f, part)
                    known.append(part)
                wanted = sorted((part, known.count(part)) for part in known)
                wanted = [pair for at, pair in enumerate(wanted) if pair not in wanted[:at]]
                with self.subTest(p=p, parts=parts, zeros=zeros):
                    self.assertEqual(parts_of(Tower(p, parts), f), wanted)

    def test_powers_of_one_part(self):
        # How often a part goes may be divided by the prime, once or oftener.
        source = random.Random(13)
        for p, parts in samples.GROUNDS[:6] + samples.SMALL:
            for part_degree in (1, 2, 3):
                part = drawn_poly(source, p, parts, part_degree, True)
                if not is_alone(Tower(p, parts), part):
                    continue
                for many in range(1, 12 // (part_degree * samples.degree_by_hand(parts)) + 1):
                    with self.subTest(p=p, parts=parts, part=part, many=many):
                        f = power_of(p, parts, part, many)
                        self.assertEqual(parts_of(Tower(p, parts), f), [(part, many)])

    def test_powers_of_several(self):
        for p, many, more in ((2, 2, 4), (2, 1, 6), (2, 3, 4), (3, 3, 6), (3, 1, 3), (5, 5, 5), (5, 2, 5), (11, 1, 11)):
            f = product_by_hand(p, [], power_of(p, [], [1, 1], many), power_of(p, [], [0, 1], more))
            with self.subTest(p=p, many=many, more=more):
                self.assertEqual(parts_of(Tower(p, []), f), [([0, 1], more), ([1, 1], many)])
        f = product_by_hand(2, [], power_of(2, [], [1, 1, 1], 4), power_of(2, [], [1, 1, 0, 0, 1], 1))
        self.assertEqual(parts_of(Tower(2, []), f), [([1, 1, 1], 4), ([1, 1, 0, 0, 1], 1)])

    def test_in_order_of_degrees_ahead_of_lists(self):
        # The part of degree 2 begins with a lesser number than that of degree 1.
        f = product_by_hand(3, [], [2, 1], [1, 0, 1])
        self.assertEqual(parts_of(Tower(3, []), f), [([2, 1], 1), ([1, 0, 1], 1)])
        f = product_by_hand(3, [], [2, 1, 1], product_by_hand(3, [], [1, 0, 1], [2, 2, 1]))
        self.assertEqual(parts_of(Tower(3, []), f), [([1, 0, 1], 1), ([2, 1, 1], 1), ([2, 2, 1], 1)])

    def test_all_zeros_of_the_letter_to_the_power_of_p(self):
        for p in (2, 3, 5, 7, 11):
            f = [0, p - 1] + [0] * (p - 2) + [1]
            wanted = [([k, 1], 1) for k in range(p)]
            self.assertEqual(parts_of(Tower(p, []), f), wanted)

    def test_great_ones_come_home(self):
        # In a run of its own: going through all elements or all polynomials would not come home.
        code = (
            "import sys\n"
            "sys.path.insert(0, 'tests')\n"
            "import random\n"
            "import tower_samples as samples\n"
            "from branchdepth.parts import is_alone, parts_of, times_poly\n"
            "from branchdepth.towers import Tower\n"
            "source = random.Random(14)\n"
            "for p, parts in samples.ALL:\n"
            "    tower = Tower(p, parts)\n"
            "    most = 12 // tower.degree()\n"
            "    for turn in range(3):\n"
            "        f = [samples.drawn(source, p, parts) for place in range(most)] + [tower.one()]\n"
            "        told = parts_of(tower, f)\n"
            "        assert is_alone(tower, f) == (told == [(f, 1)])\n"
            "        product = [tower.one()]\n"
            "        for part, many in told:\n"
            "            for time in range(many):\n"
            "                product = times_poly(tower, product, part)\n"
            "        assert product == f\n"
        )
        done = subprocess.run([sys.executable, "-c", code], cwd=ROOT, timeout=240, capture_output=True, text=True)
        self.assertEqual(done.returncode, 0, done.stderr)


class OwnTest(unittest.TestCase):
    """Point 2: nothing handed in is changed or kept, and what is told is the asker's own."""

    def answers(self, tower, f, g):
        return [
            times_poly(tower, f, g), times_poly(tower, f, [tower.one()]), times_poly(tower, [tower.one()], f),
            over_poly(tower, f, g), over_poly(tower, g, f), over_poly(tower, f, [tower.one()]),
            over_poly(tower, f, f), common_poly(tower, f, g), common_poly(tower, f, f), common_poly(tower, f, []),
            common_poly(tower, [], f), parts_of(tower, f), parts_of(tower, g),
        ]

    def test_own(self):
        source = random.Random(15)
        for p, parts in samples.GROUNDS + samples.SMALL + samples.GREAT[5:8]:
            tower = Tower(p, parts)
            degree = max(1, 6 // tower.degree())
            f = drawn_poly(source, p, parts, degree, True)
            g = drawn_poly(source, p, parts, 1, True)
            kept = copy.deepcopy((f, g))
            with self.subTest(p=p, parts=parts):
                answers = self.answers(tower, f, g)
                is_alone(tower, f)
                self.assertEqual((f, g), kept)
                self.assertEqual(tower.parts, parts)
                for told in answers:
                    self.assertTrue(samples.is_own(told, (f, g, tower.parts)))
                wanted = copy.deepcopy(answers)
                samples.spoil(answers)
                self.assertEqual(self.answers(tower, f, g), wanted)

    def test_parts_told_are_none_of_the_lists_handed_in(self):
        # f is alone, or a power of one: what is told is a new list even then.
        for p, parts in ((2, []), (3, [[1, 0, 1]])):
            tower = Tower(p, parts)
            one = tower.one()
            for f in ([one, one], times_poly(tower, [one, one], [one, one])):
                told = parts_of(tower, f)
                self.assertTrue(samples.is_own(told, f))
                samples.spoil(told)
                self.assertEqual(parts_of(tower, f), [([one, one], len(f) - 1)])

    def test_a_changed_field_changes_no_parts(self):
        tower = Tower(3, [[1, 0, 1]])
        samples.spoil(tower.parts)
        self.assertEqual(parts_of(tower, [[1, 0], [0, 0], [1, 0]]), [([[0, 1], [1, 0]], 1), ([[0, 2], [1, 0]], 1)])
        self.assertIs(is_alone(tower, [[1, 1], [0, 0], [1, 0]]), True)


if __name__ == "__main__":
    unittest.main()
