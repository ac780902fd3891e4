"""What is carried, rests, rest polynomials, lines by a branch: points 15, 16 and 17."""

import copy
import itertools
import random
import unittest
from fractions import Fraction

import tower_samples as samples
from branch_samples import (
    ALL, EVERY, WITH_FOUR_STEPS, WITH_GREAT_PARTS, WITH_STEPS_OF_DEGREE_ONE, as_tuple, drawn, low_one)
from branchdepth.branches import degree_of, monomial, numbers_of, size_by, tower_of
from branchdepth.lines import sides
from branchdepth.parts import over_poly, times_poly
from branchdepth.polys import added, digits, divided, least_size, multiplied
from branchdepth.rests import carried, line_by, rest_by, rest_poly
from branchdepth.towers import Tower
from runs import assert_in_time


def ahead(kind):
    p, first, steps = kind
    return (p, first, steps[:-1])


def size_of_numbers(kind, numbers):
    """The size of so often p and so often each key."""
    return numbers[0] + sum(many * Fraction(*size) for many, (key, size, part) in zip(numbers[1:], kind[2]))


def sizes_near(kind, many=2):
    whole = numbers_of(kind)[0]
    return [as_tuple(Fraction(top, whole)) for top in range(-many * whole, many * whole + 1)]


def letter_in(kind, at):
    """The letter of the part of step at, in the tower of the whole branch."""
    p, first, steps = kind
    parts = [first] + [part for key, size, part in steps]
    told = Tower(p, parts[:at + 2]).letter()
    for many in range(at + 3, len(parts) + 1):
        told = Tower(p, parts[:many]).lifted(told)
    return told


def carried_by_hand(kind, turns, numbers):
    """Point 15 word by word, but that powers are taken one by one: of numbers near nought."""
    p, first, steps = kind
    tower = tower_of(kind)
    unit = tower.one()
    left = list(numbers)
    for at in reversed(range(len(steps))):
        key, size, part = steps[at]
        letter = letter_in(kind, at)
        kept = (p, first, steps[:at])
        while not 0 <= left[at + 1] < turns[at]:
            sign = 1 if left[at + 1] > 0 else -1
            left[at + 1] -= sign * turns[at]
            more = monomial(kept, as_tuple(turns[at] * Fraction(*size)))
            for place in range(at + 1):
                left[place] += sign * more[place]
            unit = tower.times(unit, letter if sign == 1 else tower.back(letter))
    return (unit, left)


class CarriedTest(unittest.TestCase):
    def assert_form(self, kind, told):
        self.assertIs(type(told), tuple)
        unit, numbers = told
        self.assertTrue(tower_of(kind).is_element(unit))
        self.assertNotEqual(unit, tower_of(kind).zero())
        self.assertIs(type(numbers), list)
        self.assertEqual([type(number) for number in numbers], [int] * (len(kind[2]) + 1))

    def test_ordinary(self):
        kind = WITH_FOUR_STEPS[1][0]
        self.assertEqual(carried(kind, [0, 2]), ([[1]], [1, 0]))
        self.assertEqual(carried(kind, [3, -1]), ([[1]], [2, 1]))
        self.assertEqual(carried(WITH_FOUR_STEPS[0][0], [-7]), ([1], [-7]))
        # The letter is 1 there, the part being the letter less 1; so the key to any power is p to this power.
        kind = WITH_STEPS_OF_DEGREE_ONE[1][0]
        self.assertEqual(carried(kind, [0, 5]), ([[1]], [5, 0]))
        kind = (5, [0, 1], [([0, 1], (1, 1), [[2], [1]])])
        # The letter is 3: 3, 9, 27 .. and back by 2.
        self.assertEqual(carried(kind, [0, 1]), ([[3]], [1, 0]))
        self.assertEqual(carried(kind, [0, 2]), ([[4]], [2, 0]))
        self.assertEqual(carried(kind, [4, -1]), ([[2]], [3, 0]))
        kind = WITH_GREAT_PARTS[1][0]
        self.assertEqual(carried(kind, [0, 1]), ([[0, 0], [1, 0]], [1, 0]))

    def test_a_monomial_is_itself_and_one(self):
        for kind, key, turns in EVERY:
            one = tower_of(kind).one()
            for u in sizes_near(kind):
                numbers = monomial(kind, u)
                with self.subTest(kind=kind, numbers=numbers):
                    self.assertEqual(carried(kind, numbers), (one, numbers))

    def test_what_comes_is_the_monomial_of_the_size(self):
        source = random.Random(1)
        for kind, key, turns in EVERY:
            for turn in range(10):
                numbers = [source.randrange(-30, 31) for place in range(len(kind[2]) + 1)]
                with self.subTest(kind=kind, numbers=numbers):
                    told = carried(kind, numbers)
                    self.assert_form(kind, told)
                    self.assertEqual(told[1], monomial(kind, as_tuple(size_of_numbers(kind, numbers))))

    def test_word_by_word(self):
        source = random.Random(2)
        for kind, key, turns in EVERY:
            for turn in range(6):
                numbers = [source.randrange(-7, 8) for place in range(len(kind[2]) + 1)]
                with self.subTest(kind=kind, numbers=numbers):
                    self.assertEqual(carried(kind, numbers), carried_by_hand(kind, turns, numbers))

    def test_both_added(self):
        source = random.Random(3)
        for kind, key, turns in EVERY:
            tower = tower_of(kind)
            for most in (5, 10 ** 6, 10 ** 30):
                one = [source.randrange(-most, most + 1) for place in range(len(kind[2]) + 1)]
                other = [source.randrange(-most, most + 1) for place in range(len(kind[2]) + 1)]
                with self.subTest(kind=kind, one=one, other=other):
                    unit, numbers = carried(kind, one)
                    other_unit, other_numbers = carried(kind, other)
                    self.assert_form(kind, (unit, numbers))
                    told = carried(kind, [a + b for a, b in zip(one, other)])
                    more, wanted = carried(kind, [a + b for a, b in zip(numbers, other_numbers)])
                    self.assertEqual(told[1], wanted)
                    self.assertEqual(told[0], tower.times(tower.times(unit, other_unit), more))

    def test_great_numbers_by_powers_of_the_letter(self):
        # A step alone, with p: q turns of the key are q turns of its monomial and the letter to the power of q.
        for kind, key, turns in EVERY:
            if len(kind[2]) != 1:
                continue
            tower = tower_of(kind)
            step, size, part = kind[2][0]
            more = monomial(ahead(kind), as_tuple(turns[0] * Fraction(*size)))
            for q in (10 ** 29 + 7, -(10 ** 29) - 9):
                wanted = tower.power(tower.letter(), abs(q))
                wanted = wanted if q > 0 else tower.back(wanted)
                with self.subTest(kind=kind, q=q):
                    self.assertEqual(carried(kind, [3, q * turns[0]]), (wanted, [3 + q * more[0], 0]))

    def test_the_letter_of_a_part(self):
        for kind, key, turns in EVERY:
            p, first, steps = kind
            for at, (step_key, size, part) in enumerate(steps):
                numbers = [0] * (len(steps) + 1)
                numbers[at + 1] = turns[at]
                more = monomial((p, first, steps[:at]), as_tuple(turns[at] * Fraction(*size)))
                with self.subTest(kind=kind, at=at):
                    told = carried(kind, numbers)
                    self.assertEqual(told, (letter_in(kind, at), more + [0] * (len(steps) - at)))

    def test_the_letter_of_a_part_of_degree_1_is_contrary(self):
        for kind, key, turns in EVERY:
            if kind[2] and len(kind[2][-1][2]) == 2:
                tower = tower_of(kind)
                constant = tower.lifted(kind[2][-1][2][0])
                unit = carried(kind, [0] * len(kind[2]) + [turns[-1]])[0]
                self.assertEqual(unit, tower.minus(tower.zero(), constant))

    def test_great_numbers_come_home(self):
        assert_in_time(self, (
            "from branch_samples import EVERY\n"
            "from branchdepth.rests import carried\n"
            "for kind, key, turns in EVERY:\n"
            "    for number in (10 ** 30 + 1, -(10 ** 999) - 7):\n"
            "        carried(kind, [number] * (len(kind[2]) + 1))\n"))


def rest_by_hand(kind, turns, f):
    """Point 16's first words, with units carried by hand."""
    p, first, steps = kind
    if not steps:
        least = least_size(f, p)
        return [(f[place] // p ** least) % p if place < len(f) else 0 for place in range(len(first) - 1)]
    key, size, part = steps[-1]
    tower = tower_of(kind)
    rows = [(place, digit, Fraction(*size_by(ahead(kind), digit)))
            for place, digit in enumerate(digits(f, key)) if digit]
    least = min(own + place * Fraction(*size) for place, digit, own in rows)
    told = tower.zero()
    for place, digit, own in rows:
        if own + place * Fraction(*size) == least:
            unit = carried_by_hand(kind, turns, monomial(ahead(kind), as_tuple(own)) + [place])[0]
            told = tower.plus(told, tower.times(tower.lifted(rest_by_hand(ahead(kind), turns[:-1], digit)), unit))
    return told


class RestByTest(unittest.TestCase):
    def test_ordinary(self):
        self.assertEqual(rest_by((3, [1, 0, 1], []), [6, -9]), [2, 0])
        self.assertEqual(rest_by((3, [1, 0, 1], []), [18, -9]), [2, 2])
        self.assertEqual(rest_by((7, [0, 1], []), [-7]), [6])
        kind = (5, [0, 1], [([0, 1], (1, 2), [[2], [1]])])
        # By it the letter has the size 1/2, and its square is 3 times 5.
        self.assertEqual(rest_by(kind, [0, 2]), [[2]])
        self.assertEqual(rest_by(kind, [10, 1]), [[1]])
        self.assertEqual(rest_by(kind, [10, 25]), [[2]])
        kind = WITH_GREAT_PARTS[1][0]
        # The digits 3 (1 + 2 i) and 1 + i by the key of size 1.
        f = added([3, 6], multiplied([1, 1], [1, 0, 1]))
        self.assertEqual(rest_by(kind, f), [[1, 2], [1, 1]])

    def test_whole_numbers(self):
        for kind, key, turns in EVERY:
            p = kind[0]
            tower = tower_of(kind)
            for k, size in itertools.product((1, -1, p - 1, p + 1, 10 * p + 1, -53 * p - 1), (0, 1, 7)):
                with self.subTest(kind=kind, k=k, size=size):
                    self.assertEqual(rest_by(kind, [k * p ** size]), tower.whole(k))

    def test_an_element_and_never_nought(self):
        source = random.Random(4)
        for kind, key, turns in EVERY:
            tower = tower_of(kind)
            for turn in range(10):
                f = low_one(source, kind)
                with self.subTest(kind=kind, f=f):
                    told = rest_by(kind, f)
                    self.assertTrue(tower.is_element(told))
                    self.assertNotEqual(told, tower.zero())

    def test_word_by_word(self):
        source = random.Random(5)
        for kind, key, turns in EVERY:
            for turn in range(6):
                f = low_one(source, kind)
                with self.subTest(kind=kind, f=f):
                    self.assertEqual(rest_by(kind, f), rest_by_hand(kind, turns, f))

    def of_product(self, kind, f, g):
        tower = tower_of(kind)
        added_numbers = [a + b for a, b in zip(monomial(kind, size_by(kind, f)), monomial(kind, size_by(kind, g)))]
        unit = carried(kind, added_numbers)[0]
        return tower.times(tower.times(rest_by(kind, f), rest_by(kind, g)), unit)

    def test_of_products(self):
        source = random.Random(6)
        for kind, key, turns in EVERY:
            degree = degree_of(kind)
            for turn in range(8):
                f = low_one(source, kind, source.randrange(degree))
                g = low_one(source, kind, degree - len(f))
                with self.subTest(kind=kind, f=f, g=g):
                    self.assertEqual(rest_by(kind, multiplied(f, g)), self.of_product(kind, f, g))

    def test_of_products_by_a_key_that_belongs(self):
        # By the zeros of the key the branch tells sizes and rests, so multiples of the key change nothing.
        source = random.Random(7)
        for kind, key, turns in EVERY:
            for turn in range(4):
                f, g = low_one(source, kind), low_one(source, kind)
                with self.subTest(kind=kind, f=f, g=g):
                    self.assertEqual(rest_by(kind, divided(multiplied(f, g), key)[1]), self.of_product(kind, f, g))

    def test_of_sums(self):
        source = random.Random(8)
        alike = contrary = 0
        for kind, key, turns in EVERY:
            tower = tower_of(kind)
            for turn in range(12):
                f, g = low_one(source, kind), low_one(source, kind)
                if added(f, g) == []:
                    continue
                one, other = Fraction(*size_by(kind, f)), Fraction(*size_by(kind, g))
                total = tower.plus(rest_by(kind, f), rest_by(kind, g))
                with self.subTest(kind=kind, f=f, g=g):
                    if one < other:
                        self.assertEqual(rest_by(kind, added(f, g)), rest_by(kind, f))
                    elif other < one:
                        self.assertEqual(rest_by(kind, added(f, g)), rest_by(kind, g))
                    elif total != tower.zero():
                        alike += 1
                        self.assertEqual(Fraction(*size_by(kind, added(f, g))), one)
                        self.assertEqual(rest_by(kind, added(f, g)), total)
                    else:
                        contrary += 1
                        self.assertGreater(Fraction(*size_by(kind, added(f, g))), one)
        self.assertGreater(min(alike, contrary), 5)


def rest_poly_by_hand(kind, turns, key, u, f):
    """The rest polynomial place by place, as point 16 puts it together."""
    tower = tower_of(kind)
    size = Fraction(*u)
    whole = numbers_of(kind)[0]
    e = (size * whole).denominator
    rows = {place: (digit, Fraction(*size_by(kind, digit))) for place, digit in enumerate(digits(f, key)) if digit}
    least = min(own + place * size for place, (digit, own) in rows.items())
    places = [place for place, (digit, own) in rows.items() if own + place * size == least]
    told = []
    for s in range(places[0], places[-1] + 1, e):
        t = (s - places[0]) // e
        if s in places:
            digit, own = rows[s]
            step = monomial(kind, as_tuple(e * size))
            numbers = [a + t * b for a, b in zip(monomial(kind, as_tuple(own)), step)]
            told.append(tower.times(rest_by(kind, digit), carried_by_hand(kind, turns, numbers)[0]))
        else:
            told.append(tower.zero())
    return told


def sizes_above(source, kind, key, many):
    """Some sizes above the key's: with e from 1 on."""
    whole = numbers_of(kind)[0]
    own = Fraction(*size_by(kind, key))
    return [as_tuple(own + Fraction(source.randrange(1, 7), source.randrange(1, 4) * whole)) for turn in range(many)]


def with_key_in(source, kind, key, u, most):
    """A polynomial of at most some degree: digits by the key such that several places often have the least size."""
    p, first, steps = kind
    told = []
    size = Fraction(*u)
    for place in range(most // degree_of(kind) + 1):
        digit = low_one(source, kind)
        # Powers of p bring each digit near to one line.
        more = max(0, round(3 * size - place * size - Fraction(*size_by(kind, digit))))
        digit = [number * p ** more for number in digit]
        term = digit if source.randrange(4) else []
        for turn in range(place):
            term = multiplied(term, key)
        if len(term) <= most + 1:
            told = added(told, term)
    return told or [1]


def monic(tower, f):
    return times_poly(tower, f, [tower.back(f[-1])])


class RestPolyTest(unittest.TestCase):
    def test_ordinary(self):
        ground = (2, [0, 1], [])
        self.assertEqual(rest_poly(ground, [0, 1], (1, 1), [-4, 0, 1]), [[1], [0], [1]])
        self.assertEqual(rest_poly(ground, [0, 1], (1, 2), [2, 0, 1]), [[1], [1]])
        self.assertEqual(rest_poly(ground, [0, 1], (3, 1), [2, 0, 1]), [[1]])
        self.assertEqual(rest_poly(ground, [0, 1], (1, 3), [0, 0, 1]), [[1]])
        self.assertEqual(rest_poly((5, [0, 1], []), [0, 1], (1, 1), [0, 50, -35, 3]), [[2], [3], [3]])
        # The key xx + 2 has the size 1 by this branch.
        kind = WITH_FOUR_STEPS[1][0]
        self.assertEqual(rest_poly(kind, [2, 0, 1], (5, 4), [4, 4, 4, 0, 1]), [[[1]], [[1]]])
        # Here the letter is 3: the square of x is carried to 5 and 3, so at the places 1 and 2 a 3 comes in.
        kind = (5, [0, 1], [([0, 1], (1, 2), [[2], [1]])])
        key = [10, 0, 1]
        f = added(added(multiplied(key, key), multiplied([0, 10], key)), [500])
        self.assertEqual(rest_poly(kind, key, (3, 2), f), [[[4]], [[1]], [[3]]])

    def test_place_by_place(self):
        source = random.Random(9)
        many = 0
        for kind, key, turns in EVERY:
            for u in sizes_above(source, kind, key, 4):
                f = with_key_in(source, kind, key, u, 24)
                with self.subTest(kind=kind, key=key, u=u, f=f):
                    told = rest_poly(kind, key, u, f)
                    self.assertEqual(told, rest_poly_by_hand(kind, turns, key, u, f))
                    tower = tower_of(kind)
                    for term in told:
                        self.assertTrue(tower.is_element(term))
                    self.assertNotIn(tower.zero(), (told[0], told[-1]))
                    many += len(told) > 1
        self.assertGreater(many, 20)

    def test_of_products(self):
        source = random.Random(10)
        many = 0
        for kind, key, turns in EVERY:
            tower = tower_of(kind)
            for u in sizes_above(source, kind, key, 3):
                f, g = with_key_in(source, kind, key, u, 12), with_key_in(source, kind, key, u, 12)
                with self.subTest(kind=kind, key=key, u=u, f=f, g=g):
                    one, other = rest_poly(kind, key, u, f), rest_poly(kind, key, u, g)
                    told = rest_poly(kind, key, u, multiplied(f, g))
                    self.assertEqual(monic(tower, told), times_poly(tower, monic(tower, one), monic(tower, other)))
                    many += len(one) > 1 and len(other) > 1
        self.assertGreater(many, 10)

    def test_of_a_step_behind_it_is_the_part(self):
        for kind, key, turns in EVERY:
            if kind[2]:
                last_key, size, part = kind[2][-1]
                told = rest_poly(ahead(kind), last_key, size, key)
                with self.subTest(kind=kind, key=key):
                    self.assertEqual(monic(tower_of(ahead(kind)), told), part)
                    # Two such make the part twice.
                    told = rest_poly(ahead(kind), last_key, size, multiplied(key, key))
                    quotient, rest = over_poly(tower_of(ahead(kind)), monic(tower_of(ahead(kind)), told), part)
                    self.assertEqual((quotient, rest), (part, []))


class LineByTest(unittest.TestCase):
    def test_ordinary(self):
        self.assertEqual(line_by((2, [0, 1], []), [0, 1], [-4, 0, 1]), [(0, 2, (-1, 1))])
        self.assertEqual(line_by((2, [0, 1], []), [2, 1], [-4, 0, 1]), [(1, 2, (-2, 1))])
        self.assertEqual(line_by((2, [0, 1], []), [0, 1], [0, 0, 1]), [])
        self.assertEqual(line_by((3, [0, 1], []), [0, 1], [7]), [])
        self.assertEqual(line_by((2, [0, 1], []), [0, 1], [1, 1, 2]), [(0, 1, (0, 1)), (1, 2, (1, 1))])
        kind = WITH_FOUR_STEPS[1][0]
        # Digits 4 x + 8, 0 and 1 by xx + 2: the sizes 5/2, none and 0, and twice the key's 1.
        self.assertEqual(line_by(kind, [2, 0, 1], [12, 4, 4, 0, 1]), [(0, 2, (-1, 4))])

    def test_against_the_sizes_of_digits(self):
        source = random.Random(11)
        for kind, key, turns in EVERY:
            own = Fraction(*size_by(kind, key))
            for turn in range(5):
                f = drawn(source, kind, source.randrange(25))
                if source.randrange(2):
                    f = with_key_in(source, kind, key, as_tuple(own + 1), 24)
                found = [None if digit == [] else as_tuple(Fraction(*size_by(kind, digit)) + place * own)
                         for place, digit in enumerate(digits(f, key))]
                with self.subTest(kind=kind, key=key, f=f):
                    self.assertEqual(line_by(kind, key, f), sides(found))

    def test_sizes_of_known_zeros(self):
        # The sides stand for the sizes that the key has at the zeros: there are as many as a side is long.
        for p in (2, 3, 47):
            for zeros in ([p, p ** 2, p ** 2, 1], [p ** 3, 2 * p + 1, -p ** 3], [p, p, p + p ** 4, 3 * p - 1]):
                f = [1]
                for zero in zeros:
                    f = multiplied(f, [-zero, 1])
                found = []
                for s, t, slope in line_by((p, [0, 1], []), [0, 1], f):
                    found += [-Fraction(*slope)] * (t - s)
                wanted = [least_size([zero], p) for zero in zeros]
                self.assertEqual(sorted(found), sorted(wanted))


class OwnTest(unittest.TestCase):
    """Point 2: nothing handed in is changed or kept, and what is told is the asker's own."""

    def test_own(self):
        for kind, key, turns in EVERY:
            own = Fraction(*size_by(kind, key))
            handed = copy.deepcopy((kind, key, as_tuple(own + 1), [4, 2, 0, 3, 8], [5] * (len(kind[2]) + 1), [kind[0]]))
            kept = copy.deepcopy(handed)
            with self.subTest(kind=kind):
                for turn in range(2):
                    kind_in, key_in, u, f, numbers, low = handed
                    told = (carried(kind_in, numbers), rest_by(kind_in, low), rest_poly(kind_in, key_in, u, f),
                            line_by(kind_in, key_in, f))
                    self.assertEqual(handed, kept)
                    self.assertTrue(samples.is_own(told, handed))
                    if turn == 1:
                        self.assertEqual(told, first)
                    first = copy.deepcopy(told)
                    samples.spoil(told)
                    self.assertEqual(handed, kept)


class SamplesTest(unittest.TestCase):
    def test_there_are_branches_of_all_sorts(self):
        self.assertEqual({len(kind[2]) for kind, key, turns in EVERY}, {0, 1, 2, 3, 4})
        self.assertEqual({len(kind[1]) - 1 for kind, key, turns in EVERY}, {1, 2, 3})
        self.assertGreater(len({kind[0] for kind, key, turns in EVERY}), 6)
        self.assertEqual({len(step[2]) - 1 for kind, key, turns in EVERY for step in kind[2]}, {1, 2})
        self.assertGreater(len(EVERY), len(ALL))


if __name__ == "__main__":
    unittest.main()
