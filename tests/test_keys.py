"""Keys that belong, the next key, what is a branch: points 13 and 16."""

import copy
import random
import unittest
from fractions import Fraction

import tower_samples as samples
from branch_samples import (
    EVERY, FULL, WITH_FOUR_STEPS, WITH_GREAT_PARTS, WITH_THREE_STEPS, as_tuple, low_one, power)
from branchdepth.branches import degree_of, numbers_of, size_by, tower_of
from branchdepth.keys import belongs, is_branch, next_key
from branchdepth.parts import times_poly
from branchdepth.plains import resultant
from branchdepth.polys import added, digits, is_polynomial, multiplied, scaled, taken_off
from branchdepth.rests import rest_poly
from branchdepth.sizes import size_of_number
from runs import assert_in_time


def ahead(kind):
    p, first, steps = kind
    return (p, first, steps[:-1])


def terms_of(kind, turns, f):
    """The terms of f of lesser degree than the branch's: tuples (number, p's power, [letter's, keys' powers])."""
    p, first, steps = kind
    if not steps:
        told = []
        for place, number in enumerate(f):
            if number:
                size = size_of_number(number, p)
                told.append((number // p ** size, size, [place]))
        return told
    key, size, part = steps[-1]
    return [(number, many, powers + [place])
            for place, digit in enumerate(digits(f, key))
            for number, many, powers in terms_of(ahead(kind), turns[:-1], digit)]


def size_of_term(kind, term):
    number, many, powers = term
    return many + sum(power * Fraction(*size) for power, (key, size, part) in zip(powers[1:], kind[2]))


class NextKeyTest(unittest.TestCase):
    def test_ordinary(self):
        self.assertEqual(next_key((2, [1, 1, 1], [])), [1, 1, 1])
        self.assertEqual(next_key((47, [46, 1], [])), [46, 1])
        self.assertEqual(next_key((2, [0, 1], [([0, 1], (1, 1), [[1], [1]])])), [2, 1])
        self.assertEqual(next_key((2, [0, 1], [([2, 1], (3, 1), [[1], [1]])])), [10, 1])
        self.assertEqual(next_key((2, [0, 1], [([0, 1], (1, 2), [[1], [1]])])), [2, 0, 1])
        self.assertEqual(next_key((3, [0, 1], [([0, 1], (2, 1), [[2], [1], [1]])])), [162, 9, 1])
        self.assertEqual(next_key((3, [0, 1], [([0, 1], (2, 1), [[1], [0], [1]])])), [81, 0, 1])
        for row in (WITH_FOUR_STEPS, WITH_GREAT_PARTS, WITH_THREE_STEPS):
            for kind, key, turns in row:
                self.assertEqual(next_key(kind), key)

    def test_drawn_ones(self):
        for p, first, steps, last in FULL:
            self.assertEqual(next_key((p, first, steps)), last)

    def test_with_the_letter_carried(self):
        # The square of x is carried to 5 times the letter, which is 3 here.
        kind = (5, [0, 1], [([0, 1], (1, 2), [[2], [1]]), ([10, 0, 1], (3, 2), [[[1]], [[1]]])])
        told = next_key(kind)
        # The digit 5 x b has the rest b, and the lead 1 the unit 1: mon(3/2) is 5 x.
        self.assertEqual(told, added([10, 0, 1], [0, 5]))
        kind = (5, [0, 1], [([0, 1], (1, 2), [[2], [1]]), ([10, 0, 1], (3, 2), [[[3]], [[0]], [[1]]])])
        # 125 b at place 0 has the rest b, and the lead the unit 3: b is 9, that is 4.
        self.assertEqual(next_key(kind), added(power([10, 0, 1], 2), [500]))

    def test_behind_a_step_with_e_and_a_part_of_degree_3(self):
        part = [[1], [1], [0], [1]]
        kind = (2, [0, 1], [([0, 1], (1, 3), part)])
        key = [8, 0, 0, 4, 0, 0, 0, 0, 0, 1]
        self.assertEqual(next_key(kind), key)
        # The square of the letter stands for x to the power of 6: 2 times it has the size 3.
        more = [[[0], [0], [1]], [[1], [0], [0]]]
        self.assertEqual(next_key((2, [0, 1], kind[2] + [(key, (4, 1), more)])), added(key, [0] * 6 + [4]))

    def test_monic_of_the_degree_and_belongs(self):
        for kind, key, turns in EVERY:
            told = next_key(kind)
            with self.subTest(kind=kind):
                self.assertTrue(is_polynomial(told))
                self.assertEqual(told[-1], 1)
                self.assertEqual(len(told) - 1, degree_of(kind))
                self.assertTrue(belongs(kind, told))
                # Both belong, so their difference is of a greater size than they are.
                if told != key:
                    self.assertGreater(Fraction(*size_by(kind, taken_off(told, key))), Fraction(*size_by(kind, key)))

    def test_all_terms_are_of_the_size_told(self):
        for kind, key, turns in EVERY:
            p, first, steps = kind
            if not steps:
                self.assertEqual(next_key(kind), first)
                continue
            last_key, size, part = steps[-1]
            degree = len(part) - 1
            found = digits(next_key(kind), last_key)
            with self.subTest(kind=kind):
                self.assertEqual(len(found), turns[-1] * degree + 1)
                self.assertEqual(found[-1], [1])
                for place, digit in enumerate(found[:-1]):
                    nought = place % turns[-1] or part[place // turns[-1]] == tower_of(ahead(kind)).zero()
                    self.assertEqual(digit == [], bool(nought))
                    for term in terms_of(ahead(kind), turns[:-1], digit):
                        number, many, powers = term
                        self.assertTrue(0 < number < p)
                        self.assertGreaterEqual(many, 0)
                        self.assertLess(powers[0], len(first) - 1)
                        for power_of_key, turn, step in zip(powers[1:], turns, steps):
                            self.assertLess(power_of_key, turn * (len(step[2]) - 1))
                        wanted = (degree - place // turns[-1]) * turns[-1] * Fraction(*size)
                        self.assertEqual(size_of_term(ahead(kind), term), wanted)

    def test_the_rest_polynomial_is_the_part(self):
        for kind, key, turns in EVERY:
            if kind[2]:
                last_key, size, part = kind[2][-1]
                tower = tower_of(ahead(kind))
                told = rest_poly(ahead(kind), last_key, size, next_key(kind))
                with self.subTest(kind=kind):
                    self.assertEqual(times_poly(tower, told, [tower.back(told[-1])]), part)

    def test_no_part_of_it(self):
        # The sizes at the zeros of the next key are those by the branch: it can't be parted.
        source = random.Random(1)
        for kind, key, turns in EVERY:
            told = next_key(kind)
            for turn in range(4):
                f = low_one(source, kind)
                size = size_of_number(resultant(told, f), kind[0])
                with self.subTest(kind=kind, f=f):
                    self.assertEqual(as_tuple(Fraction(size, degree_of(kind))), size_by(kind, f))

    def test_over_towers_of_many_elements(self):
        # 47 to the power of 12 elements, and 2 to the power of 12 over towers upon towers.
        assert_in_time(self, (
            "import tower_samples as samples\n"
            "from branchdepth.keys import belongs, next_key\n"
            "from branchdepth.branches import size_by\n"
            "for p, parts in samples.GREAT + samples.SMALL:\n"
            "    steps = []\n"
            "    for part in parts[1:]:\n"
            "        key = next_key((p, parts[0], steps))\n"
            "        top, bottom = size_by((p, parts[0], steps), key)\n"
            "        steps = steps + [(key, (top + 1, 1), part)]\n"
            "    kind = (p, parts[0], steps)\n"
            "    assert belongs(kind, next_key(kind))\n"))


class BelongsTest(unittest.TestCase):
    def test_ordinary(self):
        self.assertIs(belongs((2, [1, 1, 1], []), [-1, 3, 1]), True)
        self.assertIs(belongs((2, [1, 1, 1], []), [-1, 2, 1]), False)
        kind = (2, [0, 1], [([0, 1], (1, 2), [[1], [1]])])
        self.assertIs(belongs(kind, [2, 0, 1]), True)
        self.assertIs(belongs(kind, [-2, 2, 1]), True)
        self.assertIs(belongs(kind, [6, 4, 1]), True)
        self.assertIs(belongs(kind, [4, 0, 1]), False)
        self.assertIs(belongs(kind, [2, 1, 1]), False)
        self.assertIs(belongs(kind, [0, 2, 1]), False)
        self.assertIs(belongs(kind, [0, 0, 1]), False)
        self.assertIs(belongs(kind, [1, 0, 1]), False)
        # One side of the right size alone is not enough: the part counts.
        kind = (3, [0, 1], [([0, 1], (1, 1), [[1], [0], [1]])])
        self.assertIs(belongs(kind, [9, 0, 1]), True)
        self.assertIs(belongs(kind, [9, 9, 1]), True)
        self.assertIs(belongs(kind, [18, 0, 1]), False)
        self.assertIs(belongs(kind, [9, 3, 1]), False)

    def test_known_ones(self):
        for kind, key, turns in EVERY:
            with self.subTest(kind=kind):
                self.assertIs(belongs(kind, key), True)

    def test_near_ones_and_those_too_far(self):
        # What is added belongs with it just where its size is above the key's.
        source = random.Random(2)
        seen = {True: 0, False: 0}
        for kind, key, turns in EVERY:
            p = kind[0]
            own = Fraction(*size_by(kind, key))
            for turn in range(10):
                low = low_one(source, kind)
                low = scaled(p ** max(0, round(own - Fraction(*size_by(kind, low))) + source.randrange(-1, 2)), low)
                wanted = Fraction(*size_by(kind, low)) > own
                if kind[2] or wanted or any(number % p for number in low):
                    seen[wanted] += 1
                    with self.subTest(kind=kind, key=key, low=low):
                        self.assertIs(belongs(kind, added(key, low)), wanted)
        self.assertGreater(min(seen.values()), 100)

    def test_other_degrees(self):
        for kind, key, turns in EVERY:
            others = [[1], multiplied(key, [0, 1]), multiplied(key, key), multiplied(key, [1, 1])]
            others += [step_key for step_key, size, part in kind[2]]
            for other in others:
                if len(other) != len(key):
                    with self.subTest(kind=kind, other=other):
                        self.assertIs(belongs(kind, other), False)

    def test_other_parts_and_sizes(self):
        # A key of the branch belongs to no branch of another last part or size.
        for kind, key, turns in EVERY:
            p, first, steps = kind
            if not steps:
                continue
            last_key, size, part = steps[-1]
            tower = tower_of(ahead(kind))
            other_part = [tower.plus(part[0], tower.one())] + part[1:]
            bigger = as_tuple(Fraction(*size) + 1)
            with self.subTest(kind=kind):
                if len(part) == 2 and other_part[0] != tower.zero():
                    self.assertIs(belongs((p, first, steps[:-1] + [(last_key, size, other_part)]), key), False)
                self.assertIs(belongs((p, first, steps[:-1] + [(last_key, bigger, part)]), key), False)


def with_step_changed(kind, at, place, value):
    """A branch in which one thing of one step is another one."""
    p, first, steps = kind
    step = list(steps[at])
    step[place] = value
    return (p, first, steps[:at] + [tuple(step)] + steps[at + 1:])


ANY_THINGS = (
    None, True, False, 0, 1, 2, -1, 10 ** 999, "", "a", "(2, [0, 1], [])", [], (), [[]], ((),), [0, 1], (2, [0, 1]),
    [2, [0, 1], []], (2, [0, 1], [], []), (2, (0, 1), []), (2, [0, 1], ()), (2, [0, 1], None), (2, [0, 1], [None]),
    (2, [0, 1], [()]), (2, [0, 1], [[[0, 1], (1, 2), [[1], [1]]]]), (2, [0, 1], [([0, 1], (1, 2))]),
    (None, None, None), ([], [], []), ((), (), ()), ("", "", ""), (2, [], []), (2, [[]], []), (2, [None], []),
    [[[[[[[[[[[[]]]]]]]]]]]], ((((((((((((),),),),),),),),),),),), [0] * 200, ("a" * 2000,))


class IsBranchTest(unittest.TestCase):
    def test_known_ones(self):
        for kind, key, turns in EVERY:
            with self.subTest(kind=kind):
                self.assertIs(is_branch(kind), True)

    def test_grown_by_the_next_key(self):
        source = random.Random(3)
        for kind, key, turns in EVERY:
            if len(kind[2]) == 4:
                continue
            p, first, steps = kind
            own = Fraction(*size_by(kind, next_key(kind)))
            whole = numbers_of(kind)[0]
            tower = tower_of(kind)
            for e in range(1, 13):
                size = own + Fraction(source.randrange(1, 8), e * whole)
                turn = (size * whole).denominator
                grown = (p, first, steps + [(next_key(kind), as_tuple(size), [tower.one(), tower.one()])])
                with self.subTest(kind=kind, size=size):
                    self.assertIs(is_branch(grown), degree_of(kind) * turn <= 12)

    def test_any_thing(self):
        for thing in ANY_THINGS:
            with self.subTest(thing=thing):
                self.assertIs(is_branch(thing), False)

    def test_the_prime(self):
        for p in (None, True, "2", 0, 1, 4, -2, 53, [2], (2,), 2 ** 64, 10 ** 999):
            self.assertIs(is_branch((p, [0, 1], [])), False)
        for kind, key, turns in EVERY:
            p, first, steps = kind
            if max(first) >= 2:
                self.assertIs(is_branch((2, first, steps)), False)
            self.assertIs(is_branch((-p, first, steps)), False)
            self.assertIs(is_branch((p * p, first, steps)), False)
            self.assertIs(is_branch([p, first, steps]), False)
            self.assertIs(is_branch((p, first, steps, [])), False)
            self.assertIs(is_branch((p, first)), False)

    def test_the_first_part(self):
        for first in ([], [1], [0, 0], [0, 2], [2, 1], [-1, 1], [1, 0, 1], [0, 0, 1], [0, 1, 1], (0, 1), [True, 1],
                      [0, True], [None, 1], [[0], 1], "01", None, 1, [0, 1, 0], [1] * 200,
                      # Alone, but of degree 13.
                      [1, 1, 0, 1, 1] + [0] * 8 + [1]):
            with self.subTest(first=first):
                self.assertIs(is_branch((2, first, [])), False)
        self.assertIs(is_branch((2, [1, 1, 0, 0, 1, 0, 1, 0, 0, 0, 0, 0, 1], [])), True)
        self.assertIs(is_branch((2, [0, 1], [])), True)
        for kind, key, turns in EVERY:
            p, first, steps = kind
            if steps:
                self.assertIs(is_branch((p, [(first[0] + 1) % p] + first[1:], steps)), False)

    def test_the_steps(self):
        for kind, key, turns in EVERY:
            p, first, steps = kind
            for other in (tuple(steps), None, 0, "", steps + [None], [None] + steps, steps + [()], [steps],
                          steps + [list(step) for step in steps] + [[]], steps + [(key, None, None)]):
                with self.subTest(kind=kind, other=other):
                    self.assertIs(is_branch((p, first, other)), False)
            if steps:
                self.assertIs(is_branch((p, first, steps + steps[-1:])), False)
            for at, step in enumerate(steps):
                for other in (list(step), step[:2], step + (None,), None, 1, ()):
                    with self.subTest(kind=kind, other=other):
                        self.assertIs(is_branch((p, first, steps[:at] + [other] + steps[at + 1:])), False)
                if at + 1 < len(steps) and len(step[0]) != len(steps[at + 1][0]):
                    self.assertIs(is_branch((p, first, steps[:at] + steps[at + 1:])), False)
                    turned = steps[:at] + [steps[at + 1], step] + steps[at + 2:]
                    self.assertIs(is_branch((p, first, turned)), False)

    def test_a_key(self):
        for kind, key, turns in EVERY:
            p, first, steps = kind
            for at, (step_key, size, part) in enumerate(steps):
                lead = step_key[:-1]
                for other in (None, 1, "x", [], [1], tuple(step_key), lead + [True], lead + [-1], lead + [2],
                              step_key + [0], step_key + [1], [None] + step_key[1:], [step_key[0] + 1] + step_key[1:],
                              [[]] + step_key[1:], multiplied(step_key, [0, 1]), ["0"] + step_key[1:]):
                    with self.subTest(kind=kind, at=at, other=other):
                        self.assertIs(is_branch(with_step_changed(kind, at, 0, other)), False)

    def test_a_size(self):
        for kind, key, turns in EVERY:
            p, first, steps = kind
            for at, (step_key, size, part) in enumerate(steps):
                own = size_by((p, first, steps[:at]), step_key)
                top, bottom = size
                for other in (None, 1, True, "1/2", [], list(size), (top,), (top, bottom, 1), (2 * top, 2 * bottom),
                              (-top, -bottom), (-top, bottom), (top, 0), (0, 1), own, (True, 1), (top, True),
                              (str(top), bottom), (None, 1), ((top,), bottom), (top * 13 + 1, bottom * 13 * 17),
                              (10 ** 999 + 1, 10 ** 999)):
                    if other != size:
                        with self.subTest(kind=kind, at=at, other=other):
                            self.assertIs(is_branch(with_step_changed(kind, at, 1, other)), False)
                below = Fraction(*own) - Fraction(1, 2)
                self.assertIs(is_branch(with_step_changed(kind, at, 1, as_tuple(below))), False)

    def test_a_part(self):
        for kind, key, turns in EVERY:
            p, first, steps = kind
            for at, (step_key, size, part) in enumerate(steps):
                tower = tower_of((p, first, steps[:at]))
                zero, one = tower.zero(), tower.one()
                for other in (None, 1, "", [], [one], [zero], [zero, one], tuple(part), part + [zero],
                              part[:-1] + [zero], part[:-1] + [1], [1, 1], [None] + part[1:],
                              [tuple(part[0])] + part[1:], [zero] + part[1:], [zero] + part,
                              times_poly(tower, part, part), [one] * 30, part[:-1] + [True], [[one], [one]],
                              [part[0] + part[0]] + part[1:]):
                    with self.subTest(kind=kind, at=at, other=other):
                        self.assertIs(is_branch(with_step_changed(kind, at, 2, other)), False)
        # By the rests of 3, xx + 2 is (x + 1)(x + 2).
        self.assertIs(is_branch((3, [0, 1], [([0, 1], (1, 1), [[2], [0], [1]])])), False)
        self.assertIs(is_branch((3, [0, 1], [([0, 1], (1, 1), [[1], [0], [1]])])), True)
        self.assertIs(is_branch((3, [0, 1], [([0, 1], (1, 1), [[4], [0], [1]])])), False)
        self.assertIs(is_branch((3, [0, 1], [([0, 1], (1, 1), [[-2], [0], [1]])])), False)

    def test_degrees_beyond_12(self):
        for e in range(1, 15):
            kind = (2, [0, 1], [([0, 1], (1, e), [[1], [1]])])
            self.assertIs(is_branch(kind), e <= 12)
        # Parts of degree 2 behind, each alone.
        kind = (2, [1, 1, 0, 1], [([1, 1, 0, 1], (1, 2), [[1, 0, 0], [1, 0, 0]])])
        self.assertIs(is_branch(kind), True)
        key = next_key(kind)
        part = [[[1, 0, 0]], [[1, 0, 0]], [[1, 0, 0]]]
        self.assertIs(is_branch((2, [1, 1, 0, 1], kind[2] + [(key, (2, 1), part)])), True)
        self.assertIs(is_branch((2, [1, 1, 0, 1], kind[2] + [(key, (9, 4), part)])), False)
        self.assertIs(is_branch((2, [1, 1, 0, 1], kind[2] + [(key, (9, 4), part[1:])])), True)
        self.assertIs(is_branch((2, [1, 1, 0, 1], kind[2] + [(key, (13, 6), part[1:])])), False)

    def test_more_than_four_steps(self):
        # Each key is the one ahead, and what makes the part that is the letter and 1.
        steps = []
        element = [1]
        for many in range(7):
            with self.subTest(many=many):
                self.assertIs(is_branch((3, [0, 1], steps)), many <= 4)
            key = [(3 ** (many + 1) - 3) // 2, 1]
            steps = steps + [(key, (many + 1, 1), [element, element])]
            element = [element]


class OwnTest(unittest.TestCase):
    """Point 2: nothing handed in is changed or kept, and what is told is the asker's own."""

    def test_own(self):
        for kind, key, turns in EVERY:
            handed = copy.deepcopy((kind, key))
            with self.subTest(kind=kind):
                told = next_key(handed[0])
                self.assertTrue(samples.is_own(told, handed))
                self.assertIs(belongs(*handed), True)
                self.assertIs(is_branch(handed[0]), True)
                self.assertEqual(handed, (kind, key))
                kept = list(told)
                samples.spoil(told)
                self.assertEqual(handed, (kind, key))
                self.assertEqual(next_key(handed[0]), kept)
        for thing in ANY_THINGS:
            handed = copy.deepcopy(thing)
            is_branch(handed)
            self.assertEqual(handed, thing)


if __name__ == "__main__":
    unittest.main()
