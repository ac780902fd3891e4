"""Towers of rests: point 8."""

import copy
import random
import subprocess
import sys
import unittest
from pathlib import Path

import tower_samples as samples
from branchdepth.errors import NoPrime, NoTower
from branchdepth.towers import Tower

ROOT = Path(__file__).resolve().parent.parent


def some_of(source, p, parts, many=6):
    """Nought, one, and some drawn ones."""
    told = [samples.nought_by_hand(parts), samples.one_by_hand(parts)]
    return told + [samples.drawn(source, p, parts) for turn in range(many)]


def nested(depth):
    thing = [1]
    for turn in range(depth - 1):
        thing = [thing] if turn % 2 else (thing,)
    return thing


class FieldsTest(unittest.TestCase):
    def test_fields_and_degree(self):
        for p, parts in samples.ALL:
            with self.subTest(p=p, parts=parts):
                tower = Tower(p, copy.deepcopy(parts))
                self.assertEqual(tower.p, p)
                self.assertIs(type(tower.p), int)
                self.assertEqual(tower.parts, parts)
                self.assertIs(type(tower.parts), list)
                self.assertEqual(tower.degree(), samples.degree_by_hand(parts))

    def test_nought_one_and_whole_numbers(self):
        for p, parts in samples.ALL:
            tower = Tower(p, parts)
            with self.subTest(p=p, parts=parts):
                self.assertEqual(tower.zero(), samples.nought_by_hand(parts))
                self.assertEqual(tower.one(), samples.one_by_hand(parts))
                for k in (0, 1, -1, p - 1, p, p + 1, -p, 10 ** 60, -(10 ** 999) + 1):
                    wanted = samples.shaped(parts, [k % p] + [0] * (tower.degree() - 1))
                    self.assertEqual(tower.whole(k), wanted)


class ReckonTest(unittest.TestCase):
    def test_sums_differences_products(self):
        source = random.Random(1)
        for p, parts in samples.ALL:
            tower = Tower(p, parts)
            some = some_of(source, p, parts, 4)
            for u in some:
                for v in some:
                    with self.subTest(p=p, parts=parts, u=u, v=v):
                        self.assertEqual(tower.plus(u, v), samples.sum_by_hand(p, parts, u, v))
                        self.assertEqual(tower.minus(u, v), samples.sum_by_hand(p, parts, u, v, -1))
                        self.assertEqual(tower.times(u, v), samples.times_by_hand(p, parts, u, v))

    def test_all_products_of_small_ones(self):
        for p, parts in samples.SMALL:
            if p ** samples.degree_by_hand(parts) <= 16:
                tower = Tower(p, parts)
                for u in samples.all_of(p, parts):
                    for v in samples.all_of(p, parts):
                        with self.subTest(p=p, parts=parts, u=u, v=v):
                            self.assertEqual(tower.times(u, v), samples.times_by_hand(p, parts, u, v))

    def test_back_of_each_of_a_small_one(self):
        for p, parts in samples.GROUNDS + samples.SMALL:
            tower = Tower(p, parts)
            if p ** tower.degree() > 2500:
                continue
            one = samples.one_by_hand(parts)
            for u in samples.all_of(p, parts):
                if u != samples.nought_by_hand(parts):
                    back = tower.back(u)
                    with self.subTest(p=p, parts=parts, u=u):
                        self.assertTrue(tower.is_element(back))
                        self.assertEqual(tower.times(u, back), one)

    def test_back_of_some_of_great_ones(self):
        source = random.Random(2)
        for p, parts in samples.GREAT:
            tower = Tower(p, parts)
            for u in some_of(source, p, parts, 5)[1:]:
                back = tower.back(u)
                with self.subTest(p=p, parts=parts, u=u):
                    self.assertTrue(tower.is_element(back))
                    self.assertEqual(samples.times_by_hand(p, parts, u, back), samples.one_by_hand(parts))

    def test_small_powers(self):
        source = random.Random(3)
        for p, parts in samples.ALL:
            tower = Tower(p, parts)
            for u in some_of(source, p, parts, 2):
                wanted = samples.one_by_hand(parts)
                for n in range(6):
                    with self.subTest(p=p, parts=parts, u=u, n=n):
                        self.assertEqual(tower.power(u, n), wanted)
                    wanted = samples.times_by_hand(p, parts, wanted, u)

    def test_all_powers_of_all_of_small_ones(self):
        for p, parts in samples.GROUNDS[:5] + samples.SMALL:
            many = p ** samples.degree_by_hand(parts)
            if many > 16:
                continue
            tower = Tower(p, parts)
            for u in samples.all_of(p, parts):
                wanted = samples.one_by_hand(parts)
                for n in range(2 * many + 1):
                    with self.subTest(p=p, parts=parts, u=u, n=n):
                        self.assertEqual(tower.power(u, n), wanted)
                    wanted = samples.times_by_hand(p, parts, wanted, u)

    def test_power_nought(self):
        for p, parts in samples.ALL:
            tower = Tower(p, parts)
            with self.subTest(p=p, parts=parts):
                self.assertEqual(tower.power(tower.zero(), 0), samples.one_by_hand(parts))
                self.assertEqual(tower.power(tower.one(), 0), samples.one_by_hand(parts))
                for n in (1, 2, p, p ** tower.degree() - 1, 10 ** 999):
                    self.assertEqual(tower.power(tower.zero(), n), samples.nought_by_hand(parts))

    def test_the_power_of_as_many_as_there_are(self):
        source = random.Random(4)
        for p, parts in samples.ALL:
            tower = Tower(p, parts)
            many = p ** tower.degree()
            for u in some_of(source, p, parts, 3):
                with self.subTest(p=p, parts=parts, u=u):
                    self.assertEqual(tower.power(u, many), u)
                    if u != tower.zero():
                        self.assertEqual(tower.power(u, many - 1), tower.one())
                        self.assertEqual(tower.power(u, many - 2), tower.back(u))

    def test_one_power_after_the_other_comes_to_itself(self):
        # With powers of the prime alone, each taken by products: so no power is lessened first.
        source = random.Random(5)
        for p, parts in samples.ALL:
            tower = Tower(p, parts)
            u = samples.drawn(source, p, parts)
            told = u
            for turn in range(tower.degree()):
                product = tower.one()
                for time in range(p):
                    product = tower.times(product, told)
                told = product
            with self.subTest(p=p, parts=parts):
                self.assertEqual(told, u)

    def test_great_powers(self):
        source = random.Random(6)
        numbers = (10 ** 30, 10 ** 60 + 7, 10 ** 999 - 1)
        for p, parts in samples.GREAT:
            tower = Tower(p, parts)
            u = samples.drawn(source, p, parts)
            for a, b in zip(numbers, numbers[1:]):
                with self.subTest(p=p, parts=parts, a=a):
                    product = tower.times(tower.power(u, a), tower.power(u, b))
                    self.assertEqual(tower.power(u, a + b), product)
                    self.assertEqual(tower.power(tower.power(u, a), 3), tower.power(u, 3 * a))

    def test_the_letter_makes_the_last_part_nought(self):
        for p, parts in samples.SMALL + samples.GREAT:
            tower = Tower(p, parts)
            letter = tower.letter()
            total = tower.zero()
            for at, term in enumerate(parts[-1]):
                total = tower.plus(total, tower.times(tower.lifted(term), tower.power(letter, at)))
            with self.subTest(p=p, parts=parts):
                self.assertTrue(tower.is_element(letter))
                self.assertEqual(total, tower.zero())
                if len(parts[-1]) > 2:
                    below = parts[:-1]
                    noughts = [samples.nought_by_hand(below) for place in range(len(parts[-1]) - 1)]
                    noughts[1] = samples.one_by_hand(below)
                    self.assertEqual(letter, noughts)
                else:
                    contrary = samples.sum_by_hand(
                        p, parts[:-1], samples.nought_by_hand(parts[:-1]), parts[-1][0], -1)
                    self.assertEqual(letter, [contrary])

    def test_lifted_they_reckon_as_below(self):
        source = random.Random(7)
        for p, parts in samples.SMALL + samples.GREAT:
            tower = Tower(p, parts)
            below = tower.below()
            self.assertIsInstance(below, Tower)
            self.assertEqual((below.p, below.parts), (p, parts[:-1]))
            self.assertEqual(below.degree() * (len(parts[-1]) - 1), tower.degree())
            some = some_of(source, p, parts[:-1], 3)
            for u in some:
                lifted = tower.lifted(u)
                noughts = [samples.nought_by_hand(parts[:-1]) for place in range(len(parts[-1]) - 2)]
                self.assertEqual(lifted, [u] + noughts)
                for v in some:
                    other = tower.lifted(v)
                    with self.subTest(p=p, parts=parts, u=u, v=v):
                        self.assertEqual(tower.plus(lifted, other), tower.lifted(below.plus(u, v)))
                        self.assertEqual(tower.minus(lifted, other), tower.lifted(below.minus(u, v)))
                        self.assertEqual(tower.times(lifted, other), tower.lifted(below.times(u, v)))
                if u != below.zero():
                    self.assertEqual(tower.back(lifted), tower.lifted(below.back(u)))
            self.assertEqual(tower.lifted(below.one()), tower.one())
            self.assertEqual(tower.lifted(below.whole(-5)), tower.whole(-5))


class IsElementTest(unittest.TestCase):
    def test_all_of_small_ones_and_no_more(self):
        for p, parts in samples.GROUNDS + samples.SMALL:
            if p ** samples.degree_by_hand(parts) <= 100:
                tower = Tower(p, parts)
                told = list(samples.all_of(p, parts))
                self.assertEqual(len(told), p ** tower.degree())
                for u in told:
                    with self.subTest(p=p, parts=parts, u=u):
                        self.assertIs(tower.is_element(u), True)

    def test_other_things(self):
        things = (True, False, None, -1, 53, 10 ** 999, "", "0", "x" * 2000, (), (0,), (0, 1), [], [[]], [None], [True],
                  ["0"], [-1], [53], [0] * 200, [[0]] * 13, nested(12))
        for p, parts in samples.ALL:
            tower = Tower(p, parts)
            for place, thing in enumerate(things):
                with self.subTest(p=p, parts=parts, place=place):
                    self.assertIs(tower.is_element(thing), False)

    def test_spoilt_ones(self):
        source = random.Random(8)
        for p, parts in samples.ALL:
            tower = Tower(p, parts)
            many = tower.degree()
            for wrong in (-1, p, p + 1, True, False, None, "0", [], [0], (0,)):
                for place in sorted({0, many // 2, many - 1}):
                    numbers = [source.randrange(p) for turn in range(many)]
                    numbers[place] = wrong
                    with self.subTest(p=p, parts=parts, wrong=wrong, place=place):
                        self.assertIs(tower.is_element(samples.shaped(parts, numbers)), False)

    def test_too_short_too_long_and_tuples(self):
        for p, parts in samples.SMALL + samples.GREAT:
            tower = Tower(p, parts)
            one = tower.one()
            below = samples.one_by_hand(parts[:-1])
            with self.subTest(p=p, parts=parts):
                self.assertIs(tower.is_element(one), True)
                for thing in (tuple(one), one[:-1], one + [samples.nought_by_hand(parts[:-1])], [one], below):
                    self.assertIs(tower.is_element(thing), False)
                if len(parts) > 1:
                    for inner in (tuple(one[0]), one[0][:-1], one[0] + [samples.nought_by_hand(parts[:-2])]):
                        self.assertIs(tower.is_element([inner] + one[1:]), False)


# None of these makes a tower over the prime told with it.
NO_TOWERS = (
    # No list.
    (2, None), (2, True), (2, False), (2, 0), (2, 1), (2, ""), (2, "x"), (2, ()), (2, ([0, 1],)),
    # A part that is no list.
    (2, [None]), (2, [True]), (2, [1]), (2, ["x"]), (2, [(0, 1)]), (2, [(1, 1, 1)]), (3, [[0, 1], ([1], [1])]),
    # Too short.
    (2, [[]]), (2, [[1]]), (3, [[0, 1], []]), (3, [[0, 1], [[1]]]),
    # Not ending with one.
    (2, [[1, 0]]), (3, [[1, 2]]), (5, [[1, 0, 2]]), (3, [[0, 1], [[1], [2]]]), (3, [[1, 0, 1], [[1, 0], [0, 1]]]),
    (3, [[1, 0, 1], [[1, 0], [1, 1]]]), (3, [[0, 1], [[1], [0]]]),
    # With a thing that is no element there.
    (2, [[2, 1]]), (2, [[-1, 1]]), (2, [[True, 1]]), (2, [[1, True]]), (2, [[False, 1]]), (2, [[None, 1]]),
    (2, [["1", 1]]), (2, [[[1], 1]]), (2, [[1, [1]]]), (2, [[1, 2, 1]]), (2, [[3, 1, 1]]), (3, [[4, 0, 1]]),
    (3, [[0, 1], [1, 1]]), (3, [[0, 1], [[1], 1]]), (3, [[0, 1], [1, [1]]]), (3, [[0, 1], [[1, 0], [1, 0]]]),
    (3, [[1, 0, 1], [[1], [1]]]), (3, [[1, 0, 1], [[1, 0, 0], [1, 0, 0]]]), (3, [[1, 0, 1], [(1, 0), [1, 0]]]),
    (3, [[1, 0, 1], [[1, 3], [1, 0]]]), (3, [[1, 0, 1], [[1, True], [1, 0]]]), (3, [[1, 0, 1], [[1, 0], (1, 0)]]),
    (3, [[0, 1], [[[1]], [[1]]]]), (3, [[0, 1], [[1], [1]], [[1], [1]]]),
    # Not alone.
    (2, [[0, 0, 1]]), (2, [[1, 0, 1]]), (2, [[0, 1, 1]]), (2, [[1, 0, 1, 0, 1]]), (3, [[2, 0, 1]]), (3, [[1, 2, 1]]),
    (5, [[1, 0, 1]]), (2, [[1, 1, 1], [[1, 0], [1, 0], [1, 0]]]), (3, [[0, 1], [[2], [0], [1]]]),
    (3, [[1, 0, 1], [[1, 0], [0, 0], [1, 0]]]), (47, [[0, 1], [[46], [0], [1]]]),
    (2, [[1, 1, 1], [[1, 1], [0, 0], [1, 0]]]),
    # The letter behind another part.
    (2, [[0, 1], [[0], [1]]]), (3, [[1, 0, 1], [[0, 0], [1, 0]]]), (2, [[1, 1], [[1], [1]], [[[0]], [[1]]]]),
    (2, [[0, 1], [[0], [1]], [[[1]], [[1]]]]),
    # Six parts.
    (2, [[0, 1], [[1], [1]], [[[1]], [[1]]], [[[[1]]], [[[1]]]], [[[[[1]]]], [[[[1]]]]], [[[[[[1]]]]], [[[[[1]]]]]]]),
    # Of degrees of more than 12 together; each part would be alone.
    (2, [[1, 1, 0, 1, 1, 0, 0, 0, 0, 0, 0, 0, 0, 1]]),
    (2, [[1, 1, 0, 0, 0, 0, 0, 1], [[1, 0, 0, 0, 0, 0, 0], [1, 0, 0, 0, 0, 0, 0], [1, 0, 0, 0, 0, 0, 0]]]),
    (2, [[1, 1, 1], [[1, 0], [1, 0], [0, 0], [0, 0], [0, 0], [0, 0], [0, 0], [1, 0]]]),
    (3, [[1, 2, 0, 0, 0, 0, 0, 0, 0, 0, 0, 0, 0, 0, 1]]),
    # Far from all.
    (2, [[0, 1]] * 200), (2, [[1] * 200]), (47, [[0] * 199 + [1]]), (2, nested(12)), (2, [nested(11)]), (2, [[]] * 3),
)
NO_PRIMES = (0, 1, -2, 4, 49, 53, 10 ** 999, True, False, None, "", "2", [], [2], (), (2,), [[2]], ((2, 3), "a"))


class RefusalTest(unittest.TestCase):
    def test_no_tower(self):
        for place, (p, parts) in enumerate(NO_TOWERS):
            with self.subTest(place=place, p=p):
                self.assertRaises(NoTower, Tower, p, parts)

    def test_no_prime_whatever_the_parts(self):
        for p in NO_PRIMES:
            for other, parts in NO_TOWERS + samples.SMALL + ((2, []),):
                with self.subTest(p=p, parts=str(parts)[:60]):
                    self.assertRaises(NoPrime, Tower, p, parts)

    def test_five_parts_and_degree_twelve_are_let_by(self):
        deep = [[0, 1], [[1], [1]], [[[1]], [[1]]], [[[[1]]], [[[1]]]], [[[[[1]]]], [[[[1]]]]]]
        for many in range(6):
            self.assertEqual(Tower(2, deep[:many]).parts, deep[:many])
        self.assertEqual(Tower(2, [[1, 1, 1, 1, 0, 1, 0, 0, 1, 0, 1, 1, 1]]).degree(), 12)

    def test_parts_over_all_small_grounds(self):
        # A polynomial of degree 2 or 3 is alone just where it is nought nowhere.
        for p in (2, 3, 5):
            for degree in (2, 3):
                for k in range(p ** degree):
                    part = [k // p ** place % p for place in range(degree)] + [1]
                    values = [sum(term * at ** power for power, term in enumerate(part)) % p for at in range(p)]
                    with self.subTest(p=p, part=part):
                        if 0 in values:
                            self.assertRaises(NoTower, Tower, p, [part])
                        else:
                            self.assertEqual(Tower(p, [part]).parts, [part])


class OwnTest(unittest.TestCase):
    """Point 2: nothing handed in is changed or kept, and what is told is the asker's own."""

    def answers(self, tower, u, v):
        told = [tower.zero(), tower.one(), tower.whole(5), tower.plus(u, v), tower.minus(u, v), tower.times(u, v),
                tower.plus(u, tower.zero()), tower.times(u, tower.one()), tower.times(tower.one(), u),
                tower.power(u, 0), tower.power(u, 1), tower.power(u, 3), tower.power(tower.zero(), 2)]
        if u != tower.zero():
            told.append(tower.back(u))
        told.append(tower.back(tower.one()))
        if tower.degree() == 1 and not isinstance(u, list):
            return told
        return told + [tower.letter(), tower.lifted(tower.below().one())]

    def test_what_is_handed_in_stays_and_what_is_told_is_new(self):
        source = random.Random(9)
        for p, parts in samples.SMALL + samples.GREAT[:8]:
            handed = copy.deepcopy(parts)
            tower = Tower(p, handed)
            u, v = samples.drawn(source, p, parts), samples.drawn(source, p, parts)
            kept = copy.deepcopy((u, v))
            with self.subTest(p=p, parts=parts):
                answers = self.answers(tower, u, v)
                self.assertEqual(handed, parts)
                self.assertEqual((u, v), kept)
                for told in answers:
                    self.assertTrue(samples.is_own(told, (u, v, handed, tower.parts)))
                self.assertTrue(samples.is_own(answers, (u, v, handed, tower.parts)))
                wanted = copy.deepcopy(answers)
                samples.spoil(answers)
                self.assertEqual(self.answers(tower, u, v), wanted)

    def test_a_lifted_element_is_not_the_one_handed_in(self):
        for p, parts in samples.SMALL + samples.GREAT:
            tower = Tower(p, parts)
            u = samples.one_by_hand(parts[:-1])
            told = tower.lifted(u)
            self.assertTrue(samples.is_own(told, u))

    def test_the_field_parts_is_a_list_of_its_own(self):
        source = random.Random(10)
        for p, parts in samples.SMALL + samples.GREAT[:8]:
            handed = copy.deepcopy(parts)
            tower = Tower(p, handed)
            other = Tower(p, handed)
            u, v = samples.drawn(source, p, parts), samples.drawn(source, p, parts)
            wanted = self.answers(tower, u, v)
            with self.subTest(p=p, parts=parts):
                self.assertTrue(samples.is_own(tower.parts, handed))
                self.assertTrue(samples.is_own(tower.parts, other.parts))
                self.assertTrue(samples.is_own(tower.below().parts, (tower.parts, handed)))
                samples.spoil(handed)
                self.assertEqual(tower.parts, parts)
                self.assertEqual(self.answers(tower, u, v), wanted)
                samples.spoil(tower.parts)
                self.assertEqual(self.answers(tower, u, v), wanted)
                self.assertEqual(other.parts, parts)
                self.assertEqual(tower.degree(), samples.degree_by_hand(parts))
                self.assertEqual(tower.below().parts, parts[:-1])
                self.assertIs(tower.is_element(u), True)
                samples.spoil(tower.below().parts)
                self.assertEqual(tower.below().parts, parts[:-1])
                tower.parts.clear()
                self.assertEqual(self.answers(tower, u, v), wanted)

    def test_no_parts(self):
        handed = []
        tower = Tower(5, handed)
        handed.append([0, 1])
        self.assertEqual(tower.parts, [])
        tower.parts.append([0, 1])
        self.assertEqual(tower.one(), 1)
        self.assertIs(tower.is_element(4), True)
        self.assertEqual(Tower(5, []).parts, [])

    def test_refused_things_stay(self):
        for p, parts in NO_TOWERS:
            kept = copy.deepcopy(parts)
            self.assertRaises(NoTower, Tower, p, parts)
            self.assertEqual(parts, kept)


class ComeHomeTest(unittest.TestCase):
    def test_great_towers(self):
        # In a run of its own: going through all elements, or one product behind the other, would not come home.
        code = (
            "import sys\n"
            "sys.path.insert(0, 'tests')\n"
            "import random\n"
            "import tower_samples as samples\n"
            "from branchdepth.towers import Tower\n"
            "source = random.Random(11)\n"
            "for p, parts in samples.GREAT:\n"
            "    tower = Tower(p, parts)\n"
            "    for turn in range(5):\n"
            "        u = samples.drawn(source, p, parts)\n"
            "        v = tower.power(u, 10 ** 999 + turn)\n"
            "        assert tower.times(v, tower.back(v)) == tower.one()\n"
        )
        done = subprocess.run([sys.executable, "-c", code], cwd=ROOT, timeout=120, capture_output=True, text=True)
        self.assertEqual(done.returncode, 0, done.stderr)


if __name__ == "__main__":
    unittest.main()
