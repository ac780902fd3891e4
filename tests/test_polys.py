"""Polynomials: point 6."""

import copy
import random
import unittest

from branchdepth.polys import (
    added, derived, digits, divided, is_polynomial, least_size, multiplied, put_together, scaled, shifted, taken_off,
    value)

PRIMES = (2, 3, 5, 7, 11, 13, 17, 19, 23, 29, 31, 37, 41, 43, 47)
SIXTY_FIGURES = 10 ** 60

# Where two polynomials are held against one another, more places than a degree of 60 needs.
PLACES = 70


def nested(depth):
    thing = [1]
    for turn in range(depth - 1):
        thing = [thing] if turn % 2 else (thing,)
    return thing


def drawn(source, degree, bound=SIXTY_FIGURES):
    """A polynomial of just this degree, [] for -1, some coefficients 0."""
    if degree < 0:
        return []
    lower = [source.choice((0, source.randrange(-bound + 1, bound))) for place in range(degree)]
    return lower + [source.choice((-1, 1)) * source.randrange(1, bound)]


def drawn_monic(source, degree, bound=SIXTY_FIGURES):
    return drawn(source, degree, bound)[:-1] + [1]


def by_powers(f):
    """The coefficients as a dict, noughts left out."""
    return {power: part for power, part in enumerate(f) if part != 0}


def product_by_powers(f, g):
    told = {}
    for power, part in by_powers(f).items():
        for other, factor in by_powers(g).items():
            told[power + other] = told.get(power + other, 0) + part * factor
    return {power: part for power, part in told.items() if part != 0}


def at_place(f, k):
    return sum(part * k ** power for power, part in enumerate(f))


class PolyTest(unittest.TestCase):
    def assert_polynomial(self, told):
        self.assertIs(type(told), list)
        for part in told:
            self.assertIs(type(part), int)
        self.assertTrue(not told or told[-1] != 0, told)

    def assert_told(self, told, wanted):
        self.assert_polynomial(told)
        self.assertEqual(told, wanted)

    def samples(self, seed, degrees=(-1, 0, 1, 2, 3, 7, 12, 24)):
        source = random.Random(seed)
        few = [[], [1], [-1], [0, 1], [0, -1], [1, 1], [-1, 1], [2, 0, -3], [0, 0, 0, 5]]
        return few + [drawn(source, degree) for degree in degrees for turn in range(3)]


class IsPolynomialTest(unittest.TestCase):
    def test_polynomials(self):
        for thing in ([], [1], [-1], [0, 1], [0, 0, -5], [10 ** 999, 2], [1] * 61, [0] * 199 + [3], [7] * 200):
            with self.subTest(str(thing)[:40]):
                self.assertIs(is_polynomial(thing), True)

    def test_a_last_nought(self):
        for thing in ([0], [0, 0], [1, 0], [1, 2, 3, 0], [5] * 199 + [0]):
            with self.subTest(str(thing)[:40]):
                self.assertIs(is_polynomial(thing), False)

    def test_what_is_no_list(self):
        things = (
            True, False, None, 0, 1, -7, 10 ** 999, "", "1", "[1]", "x" * 2000, (), (1,), (0, 1), ([1],), nested(12))
        for place, thing in enumerate(things):
            with self.subTest(place=place):
                self.assertIs(is_polynomial(thing), False)

    def test_lists_with_other_things(self):
        for inner in (True, False, None, "", "1", [], [1], (), (1,), nested(11)):
            for thing in ([inner], [inner, 1], [1, inner], [0, inner, 1], [1] * 100 + [inner] + [1] * 99):
                with self.subTest(inner=inner, many=len(thing)):
                    self.assertIs(is_polynomial(thing), False)

    def test_changes_nothing(self):
        inner = [3, 0]
        thing = [2, inner, 0]
        is_polynomial(thing)
        self.assertEqual(thing, [2, [3, 0], 0])
        self.assertIs(thing[1], inner)


class SumTest(PolyTest):
    def test_ordinary(self):
        self.assert_told(added([1, 2, 3], [4, 5]), [5, 7, 3])
        self.assert_told(added([4, 5], [1, 2, 3]), [5, 7, 3])
        self.assert_told(taken_off([1, 2, 3], [4, 5]), [-3, -3, 3])
        self.assert_told(taken_off([4, 5], [1, 2, 3]), [3, 3, -3])
        self.assert_told(scaled(-2, [1, 0, 3]), [-2, 0, -6])

    def test_against_sums_place_by_place(self):
        polys = self.samples(1)
        for f in polys:
            for g in polys:
                sums = [0] * PLACES
                differences = [0] * PLACES
                for place, part in enumerate(f):
                    sums[place] += part
                    differences[place] += part
                for place, part in enumerate(g):
                    sums[place] += part
                    differences[place] -= part
                with self.subTest(f=f, g=g):
                    for told, wanted in ((added(f, g), sums), (taken_off(f, g), differences)):
                        self.assert_polynomial(told)
                        self.assertEqual(told + [0] * (PLACES - len(told)), wanted)

    def test_leading_terms_fall_away(self):
        self.assert_told(added([1, 2, 3], [1, 2, -3]), [2, 4])
        self.assert_told(added([1, 0, 0, 3], [1, 0, 0, -3]), [2])
        self.assert_told(added([0, 0, 7], [0, 0, -7]), [])
        self.assert_told(taken_off([1, 2, 3], [5, 2, 3]), [-4])
        self.assert_told(taken_off([1, 0, 2, 3], [1, 5, 2, 3]), [0, -5])
        for f in self.samples(2):
            with self.subTest(f=f):
                self.assert_told(taken_off(f, f), [])
                self.assert_told(taken_off(f, list(f)), [])
                self.assert_told(added(f, [-part for part in f]), [])

    def test_nothing(self):
        for f in self.samples(3):
            with self.subTest(f=f):
                self.assert_told(added(f, []), f)
                self.assert_told(added([], f), f)
                self.assert_told(taken_off(f, []), f)
                self.assert_told(taken_off([], f), [-part for part in f])

    def test_scaled(self):
        for f in self.samples(4):
            for k in (1, -1, 2, -47, 10 ** 60 - 1, -(10 ** 60)):
                with self.subTest(f=f, k=k):
                    self.assert_told(scaled(k, f), [k * part for part in f])
            self.assert_told(scaled(0, f), [])


class ProductTest(PolyTest):
    def test_ordinary(self):
        self.assert_told(multiplied([1, 1], [-1, 1]), [-1, 0, 1])
        self.assert_told(multiplied([0, 0, 2], [0, 3]), [0, 0, 0, 6])
        self.assert_told(multiplied([2], [3]), [6])

    def test_against_products_term_by_term(self):
        polys = self.samples(5)
        for f in polys:
            for g in polys:
                with self.subTest(f=f, g=g):
                    told = multiplied(f, g)
                    self.assert_polynomial(told)
                    self.assertEqual(by_powers(told), product_by_powers(f, g))

    def test_nothing_and_one(self):
        for f in self.samples(6):
            with self.subTest(f=f):
                self.assert_told(multiplied(f, []), [])
                self.assert_told(multiplied([], f), [])
                self.assert_told(multiplied(f, [1]), f)
                self.assert_told(multiplied([1], f), f)

    def test_degree_sixty(self):
        source = random.Random(7)
        f, g = drawn(source, 30), drawn(source, 30)
        told = multiplied(f, g)
        self.assertEqual(len(told), 61)
        self.assertEqual(by_powers(told), product_by_powers(f, g))


class DividedTest(PolyTest):
    def assert_divided(self, f, g):
        told = divided(f, g)
        self.assertIs(type(told), tuple)
        quotient, rest = told
        self.assert_polynomial(quotient)
        self.assert_polynomial(rest)
        self.assertLess(len(rest), len(g))
        self.assertEqual(added(multiplied(quotient, g), rest), f)

    def test_ordinary(self):
        self.assertEqual(divided([-1, 0, 1], [1, 1]), ([-1, 1], []))
        self.assertEqual(divided([5, 0, 0, 2], [3, 0, 1]), ([0, 2], [5, -6]))
        self.assertEqual(divided([5, 4], [0, 0, 1]), ([], [5, 4]))
        self.assertEqual(divided([0, 0, 3], [0, 1]), ([0, 3], []))

    def test_put_together_again(self):
        source = random.Random(8)
        for f in self.samples(9):
            for degree in (0, 1, 2, 3, 8, 12, 24):
                g = drawn_monic(source, degree, source.choice((2, 10, SIXTY_FIGURES)))
                with self.subTest(f=f, g=g):
                    self.assert_divided(f, g)

    def test_products_and_rests(self):
        source = random.Random(10)
        for degree in (1, 2, 5, 12):
            g = drawn_monic(source, degree)
            for more in (-1, 0, 1, 6, 12):
                for rest_degree in range(-1, degree):
                    quotient, rest = drawn(source, more), drawn(source, rest_degree)
                    f = added(multiplied(quotient, g), rest)
                    with self.subTest(degree=degree, more=more, rest_degree=rest_degree):
                        self.assertEqual(divided(f, g), (quotient, rest))

    def test_by_one_and_of_nothing(self):
        for f in self.samples(11):
            with self.subTest(f=f):
                self.assertEqual(divided(f, [1]), (f, []))
        for g in ([1], [0, 1], [5, -2, 1]):
            self.assertEqual(divided([], g), ([], []))

    def test_by_itself(self):
        f = [3, -5, 1]
        self.assertEqual(divided(f, f), ([1], []))
        self.assertEqual(f, [3, -5, 1])

    def test_degree_sixty(self):
        source = random.Random(12)
        self.assert_divided(drawn(source, 60), drawn_monic(source, 7))
        self.assert_divided(drawn(source, 60), drawn_monic(source, 60))


class DigitsTest(PolyTest):
    def test_ordinary(self):
        self.assertEqual(digits([1, 2, 3, 4], [0, 1]), [[1], [2], [3], [4]])
        self.assertEqual(digits([1, 2, 3, 4], [0, 0, 1]), [[1, 2], [3, 4]])
        self.assertEqual(digits([1, 0, 0, 0, 1], [1, 0, 1]), [[2], [-2], [1]])
        self.assertEqual(digits([0, 0, 0, 7], [0, 0, 1]), [[], [0, 7]])
        self.assertEqual(digits([6], [0, 0, 1]), [[6]])

    def test_of_nothing(self):
        self.assertEqual(digits([], [0, 1]), [])
        self.assertEqual(digits([], [1, 0, 0, 1]), [])
        self.assertEqual(put_together([], [0, 1]), [])

    def test_put_together_again(self):
        source = random.Random(13)
        for f in self.samples(14):
            for degree in (1, 2, 3, 5, 12, 24, 30):
                key = drawn_monic(source, degree, source.choice((2, 10, SIXTY_FIGURES)))
                with self.subTest(f=f, key=key):
                    told = digits(f, key)
                    self.assertIs(type(told), list)
                    self.assertEqual(told == [], f == [])
                    self.assertTrue(not told or told[-1] != [])
                    total = []
                    power = [1]
                    for digit in told:
                        self.assert_polynomial(digit)
                        self.assertLess(len(digit), len(key))
                        total = added(total, multiplied(digit, power))
                        power = multiplied(power, key)
                    self.assertEqual(total, f)
                    self.assert_told(put_together(told, key), f)

    def test_the_other_way_round(self):
        source = random.Random(15)
        for degree in (1, 2, 4, 12):
            key = drawn_monic(source, degree)
            for many in range(6):
                rows = [drawn(source, source.randrange(-1, degree)) for turn in range(many)]
                if many > 0:
                    rows[-1] = drawn(source, source.randrange(0, degree))
                with self.subTest(degree=degree, many=many):
                    f = put_together(rows, key)
                    self.assert_polynomial(f)
                    self.assertEqual(digits(f, key), rows)

    def test_put_together_ordinary(self):
        self.assert_told(put_together([[2], [-2], [1]], [1, 0, 1]), [1, 0, 0, 0, 1])
        self.assert_told(put_together([[], [], [3, 5]], [0, 0, 1]), [0, 0, 0, 0, 3, 5])


class ShiftedTest(PolyTest):
    def test_ordinary(self):
        self.assert_told(shifted([0, 0, 1], 3), [9, 6, 1])
        self.assert_told(shifted([0, 0, 1], -3), [9, -6, 1])
        self.assert_told(shifted([5], 3), [5])
        self.assert_told(shifted([], 3), [])

    def test_there_and_back(self):
        for f in self.samples(16):
            for c in (0, 1, -1, 2, -7, 10 ** 20):
                with self.subTest(f=f, c=c):
                    told = shifted(f, c)
                    self.assert_polynomial(told)
                    self.assertEqual(len(told), len(f))
                    self.assertEqual(shifted(told, -c), f)
                    for k in (0, 1, -1, 5, -13):
                        self.assertEqual(at_place(told, k), at_place(f, k + c))

    def test_by_nought(self):
        for f in self.samples(17):
            self.assert_told(shifted(f, 0), f)


class DerivedTest(PolyTest):
    def test_ordinary(self):
        self.assert_told(derived([1, 2, 3, 4]), [2, 6, 12])
        self.assert_told(derived([7, 5]), [5])
        self.assert_told(derived([7]), [])
        self.assert_told(derived([]), [])
        self.assert_told(derived([0, 0, 0, 0, 1]), [0, 0, 0, 4])

    def test_of_a_product(self):
        polys = self.samples(18)
        for f in polys:
            for g in polys:
                with self.subTest(f=f, g=g):
                    told = derived(multiplied(f, g))
                    self.assert_polynomial(told)
                    self.assertEqual(told, added(multiplied(derived(f), g), multiplied(f, derived(g))))


class ValueTest(PolyTest):
    def test_against_powers(self):
        for f in self.samples(19):
            for k in (0, 1, -1, 2, -3, 10, 10 ** 30, -(10 ** 59)):
                with self.subTest(f=f, k=k):
                    told = value(f, k)
                    self.assertIs(type(told), int)
                    self.assertEqual(told, at_place(f, k))

    def test_ordinary(self):
        self.assertEqual(value([1, 2, 3], 2), 17)
        self.assertEqual(value([], 5), 0)
        self.assertEqual(value([4], 0), 4)
        self.assertEqual(value([-2, 1], 2), 0)


class LeastSizeTest(unittest.TestCase):
    def test_ordinary(self):
        self.assertEqual(least_size([4, 8, 2], 2), 1)
        self.assertEqual(least_size([0, 8, 0, 16], 2), 3)
        self.assertEqual(least_size([9, 8, 3], 3), 0)
        self.assertEqual(least_size([0, 1], 47), 0)
        self.assertEqual(least_size([-48], 2), 4)

    def test_nothing(self):
        for p in PRIMES:
            self.assertIsNone(least_size([], p))

    def test_each_place_may_be_the_least(self):
        for p in PRIMES:
            for least in range(4):
                for size in (0, 1, 5):
                    f = [53 * p ** (size + 1 + at) for at in range(4)]
                    f[least] = -59 * p ** size
                    with self.subTest(p=p, least=least, size=size):
                        told = least_size(f, p)
                        self.assertIs(type(told), int)
                        self.assertEqual(told, size)


class OwnTest(unittest.TestCase):
    """Point 2: nothing handed in is changed or kept, and what is told is the asker's own."""

    ASKED = (
        (added, ([1, 2, 3], [4, 5])), (added, ([1, 2], [])), (added, ([], [1, 2])), (added, ([], [])),
        (taken_off, ([1, 2, 3], [4, 5])), (taken_off, ([1, 2], [])), (taken_off, ([1, 2], [1, 2])),
        (multiplied, ([1, 2, 3], [4, 5])), (multiplied, ([1], [4, 5])), (multiplied, ([4, 5], [1])),
        (multiplied, ([], [4, 5])), (scaled, (3, [1, 2])), (scaled, (1, [1, 2])), (scaled, (0, [1, 2])),
        (shifted, ([1, 2, 3], 4)), (shifted, ([1, 2, 3], 0)), (shifted, ([7], 2)), (shifted, ([], 2)),
        (derived, ([1, 2, 3],)), (derived, ([],)),
        (divided, ([1, 2, 3, 4], [5, 1])), (divided, ([1, 2], [5, 5, 1])), (divided, ([1, 2], [1])),
        (divided, ([], [1])), (digits, ([1, 2, 3, 4, 5], [5, 6, 1])), (digits, ([1, 2], [5, 6, 1])),
        (digits, ([0, 0, 0, 0, 1], [0, 0, 1])), (digits, ([], [0, 1])),
        (put_together, ([[1, 2]], [5, 6, 1])), (put_together, ([[1, 2], [], [3]], [5, 6, 1])),
        (put_together, ([], [0, 1])), (value, ([1, 2, 3], 5)), (least_size, ([4, 6], 2)),
    )

    def lists_in(self, thing):
        if isinstance(thing, list):
            yield thing
        if isinstance(thing, (list, tuple)):
            for inner in thing:
                yield from self.lists_in(inner)

    def test_what_is_handed_in_stays(self):
        for ask, things in self.ASKED:
            with self.subTest(ask=ask.__name__, things=things):
                handed = copy.deepcopy(things)
                told = ask(*handed)
                self.assertEqual(handed, things)
                kept = {id(inner) for inner in self.lists_in(handed)}
                told_lists = [id(inner) for inner in self.lists_in(told)]
                self.assertFalse(kept & set(told_lists))
                self.assertEqual(len(told_lists), len(set(told_lists)))

    def test_what_is_told_may_be_changed(self):
        for ask, things in self.ASKED:
            with self.subTest(ask=ask.__name__, things=things):
                first = ask(*things)
                kept = copy.deepcopy(first)
                for inner in list(self.lists_in(first)):
                    inner.append(99)
                    inner[0] = 98
                self.assertEqual(ask(*things), kept)


if __name__ == "__main__":
    unittest.main()
