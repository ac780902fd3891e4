"""The looker: points 26 and 24."""

import ast
import copy
import random
import unittest
from fractions import Fraction
from pathlib import Path

import test_bounds as bounds
import tower_samples as samples
from branch_samples import as_tuple, low_one
from branchdepth.branches import degree_of, numbers_of, size_by, tower_of
from branchdepth.errors import NoPolynomial, NoPrime, NotPlain, TooDeep
from branchdepth.keys import belongs, next_key
from branchdepth.leaves import branch_of, index_of, leaf_numbers, leaves
from branchdepth.looker import lets_by
from branchdepth.parts import parts_of, times_poly
from branchdepth.polys import added, divided, multiplied, scaled
from branchdepth.rests import line_by, rest_poly
from branchdepth.towers import Tower
from piece_samples import PIECES, drawn_pieces, product_of, two_terms

PACKAGE = Path(__file__).resolve().parent.parent / "branchdepth"

# With forks of all sorts: keys that are exchanged, that divide, several steps, parts and first parts of degree 2.
KNOWN = (
    ([-4, 0, 1], 2), ([17, -18, 1], 2), ([1, 0, 1], 5), ([0, 1], 2), ([2, 0, 1], 2),
    (multiplied([2, 0, 1], [10, 0, 1]), 2), (product_of([[-3, 1], [-12, 1], [-6, 1]]), 3),
    (multiplied([9, 0, 1], [90, 0, 1]), 3), (multiplied([4, 0, 5, 0, 1], [1, 0, 1, 0, 1]), 3),
    (product_of([[-3, 1], [-30, 1], [-6, 1], [-33, 1]]), 3),
    ([4, 4, 4, 0, 1], 2), (multiplied([6, 3, 3, 1], [56, 28, 3, 1]), 5), (multiplied([6, 3, 3, 1], [31, 3, 3, 1]), 5),
)


def drawn_products(seed, many):
    source = random.Random(seed)
    for p in sorted(PIECES):
        for turn in range(many):
            yield product_of([f for f, numbers in drawn_pieces(source, p)]), p


def all_asked(seed, many):
    yield from KNOWN
    yield from drawn_products(seed, many)


def other_key(source, kind):
    """A key that belongs to a branch, most often another one than the next."""
    key = next_key(kind)
    own = Fraction(*size_by(kind, key))
    low = low_one(source, kind)
    while Fraction(*size_by(kind, low)) <= own:
        low = scaled(kind[0], low)
    return added(key, low) if source.randrange(3) else key


def with_other_keys(source, f, kind, forks, floor, key):
    """Forks of leaves as point 18 goes through them, but that any keys that belong are taken."""
    told = [forks + [(key, None, None)]] if divided(f, key)[1] == [] else []
    p, first, steps = kind
    tower = tower_of(kind)
    own = Fraction(*size_by(kind, key))
    for s, t, slope in line_by(kind, key, f):
        size = own - Fraction(*slope)
        if size <= own or size <= floor:
            continue
        rests = rest_poly(kind, key, as_tuple(size), f)
        for part, often in parts_of(tower, times_poly(tower, rests, [tower.back(rests[-1])])):
            fork = (key, as_tuple(size), part)
            made = (p, first, steps + [fork])
            if often == 1:
                told.append(forks + [fork])
            elif degree_of(made) == degree_of(kind):
                told += with_other_keys(source, f, kind, forks + [fork], size, other_key(source, made))
            else:
                told += with_other_keys(source, f, made, forks + [fork], Fraction(0), other_key(source, made))
    return told


def other_leaves(source, f, p):
    told = []
    for first, often in parts_of(Tower(p, []), [number % p for number in f]):
        kind = (p, first, [])
        if often == 1:
            told.append((first, []))
        else:
            key = other_key(source, kind)
            told += [(first, forks) for forks in with_other_keys(source, f, kind, [], Fraction(0), key)]
    return told


class LetByTest(unittest.TestCase):
    def test_the_leaves_told(self):
        for f, p in all_asked(1, 12):
            with self.subTest(f=f, p=p):
                told = leaves(f, p)
                self.assertIs(lets_by(f, p, told), True)
                self.assertIs(lets_by(f, p, told[::-1]), True)
                self.assertIs(lets_by(f, p, sorted(told, key=repr)), True)

    def test_other_keys_that_belong(self):
        source = random.Random(2)
        others = 0
        for f, p in all_asked(3, 12):
            told = leaves(f, p)
            for turn in range(3):
                other = other_leaves(source, f, p)
                source.shuffle(other)
                others += sorted(other, key=repr) != sorted(told, key=repr)
                with self.subTest(f=f, p=p, other=other):
                    self.assertIs(lets_by(f, p, other), True)
                    self.assertEqual(sorted(leaf_numbers(p, leaf) for leaf in other),
                                     sorted(leaf_numbers(p, leaf) for leaf in told))
                    self.assertEqual(index_of(p, other), index_of(p, told))
        self.assertGreater(others, 100)


def with_fork(told, at, place, fork):
    """A list of leaves in which one fork of one leaf is another one."""
    first, forks = told[at]
    return told[:at] + [(first, forks[:place] + [fork] + forks[place + 1:])] + told[at + 1:]


def with_forks(told, at, forks):
    return told[:at] + [(told[at][0], forks)] + told[at + 1:]


class NotLetByTest(unittest.TestCase):
    def assert_not(self, f, p, thing):
        with self.subTest(f=f, p=p, thing=thing):
            self.assertIs(lets_by(f, p, thing), False)

    def each_fork(self, seed, many):
        """Tuples (f, p, leaves told, number of the leaf, number of the fork)."""
        for f, p in all_asked(seed, many):
            told = leaves(f, p)
            for at, (first, forks) in enumerate(told):
                for place in range(len(forks)):
                    yield f, p, told, at, place

    def test_none_one_left_out_one_twice(self):
        for f, p in all_asked(4, 6):
            told = leaves(f, p)
            self.assert_not(f, p, [])
            self.assert_not(f, p, tuple(told))
            for at in range(len(told)):
                self.assert_not(f, p, told[:at] + told[at + 1:])
                self.assert_not(f, p, told + told[at:at + 1])
                for other in range(len(told)):
                    if other != at:
                        # As many as there should be, but one in another's stead.
                        self.assert_not(f, p, told[:at] + [told[other]] + told[at + 1:])

    def test_leaves_of_another_polynomial(self):
        for f, p in all_asked(5, 4):
            told = leaves(f, p)
            far = added(f, [1])
            for g in (far, multiplied(f, [-1, 1]), added(f, [0, p]) if len(f) > 2 else far):
                try:
                    found = leaves(g, p)
                except (NotPlain, TooDeep, NoPolynomial):
                    continue
                if sorted(leaf_numbers(p, leaf) for leaf in found) != sorted(leaf_numbers(p, leaf) for leaf in told):
                    self.assert_not(g, p, told)

    def test_a_leaf_of_another_form(self):
        for f, p in all_asked(6, 3):
            told = leaves(f, p)
            for at, (first, forks) in enumerate(told):
                for leaf in (None, 1, True, "", [], (), first, [first, forks], (first,), (first, forks, []),
                             (tuple(first), forks), (first, tuple(forks)), (None, forks), (first, None),
                             (first + [0], forks), ([number + p for number in first], forks),
                             (first[:-1] + [True], forks), (first, forks + [None]), (first, [None] + forks),
                             ([], forks), ([1], forks), (forks, first)):
                    self.assert_not(f, p, told[:at] + [leaf] + told[at + 1:])

    def test_a_first_part_that_does_not_divide_or_is_not_alone(self):
        for f, p in all_asked(7, 4):
            told = leaves(f, p)
            for at, (first, forks) in enumerate(told):
                other = [(first[0] + 1) % p] + first[1:]
                if not any(leaf[0] == other for leaf in told):
                    self.assert_not(f, p, told[:at] + [(other, forks)] + told[at + 1:])
        # (x + 1)(x + 2) goes once into the rests by 5, but is not alone.
        f = multiplied([1, 1], [2, 1])
        self.assert_not(f, 5, [([2, 3, 1], [])])
        # xx + 1 is alone by 3, but goes nowhere.
        self.assert_not([-1, 0, 1], 3, [([1, 0, 1], [])])
        # It goes twice, so there have to be forks.
        self.assert_not([-4, 0, 1], 2, [([0, 1], []), ([0, 1], [])])
        self.assert_not(multiplied([0, 1], [1, 1]), 2, [([0, 1], [([0, 1], None, None)]), ([1, 1], [])])

    def test_a_fork_of_another_form(self):
        for f, p, told, at, place in self.each_fork(8, 2):
            key, size, part = told[at][1][place]
            for fork in (None, 1, "", [], (), [key, size, part], (key, size), (key, size, part, part),
                         (None, size, part), (tuple(key), size, part), (key[:-1] + [True], size, part),
                         (key + [0], size, part), (key[:-1], size, part), ([], size, part), ([1], size, part),
                         (key, [1, 1], part), (key, 1, part), (key, True, part), (key, "1", part), (key, (1,), part),
                         (key, size, ()), (key, size, 1), (key, size, [])):
                self.assert_not(f, p, with_fork(told, at, place, fork))

    def test_a_key_that_does_not_belong(self):
        for f, p, told, at, place in self.each_fork(9, 4):
            key, size, part = told[at][1][place]
            kind = branch_of(p, (told[at][0], told[at][1][:place]))
            for other in (added(key, [1]), added(key, [0, 1]), multiplied(key, [0, 1]), [0, 1], [1, 1],
                          added(key, next_key((p, told[at][0], []))[:-1] + [1])):
                if other and other[-1] == 1 and not belongs(kind, other):
                    self.assert_not(f, p, with_fork(told, at, place, (other, size, part)))

    def test_another_size(self):
        for f, p, told, at, place in self.each_fork(10, 4):
            key, size, part = told[at][1][place]
            if size is None:
                self.assert_not(f, p, with_fork(told, at, place, (key, (3, 1), [[1], [1]])))
                self.assert_not(f, p, with_fork(told, at, place, (key, None, [[1], [1]])))
                self.assert_not(f, p, with_fork(told, at, place, (key, (3, 1), None)))
                continue
            top, bottom = size
            for other in ((top + bottom, bottom), (top - bottom, bottom), (2 * top, 2 * bottom), (-top, -bottom),
                          (top, -bottom), (0, 1), as_tuple(Fraction(top, bottom) + Fraction(1, 7)), (top, 0),
                          (top, bottom, 1), (str(top), bottom), (top, True) if bottom == 1 else (True, bottom)):
                if other != size:
                    self.assert_not(f, p, with_fork(told, at, place, (key, other, part)))
            self.assert_not(f, p, with_fork(told, at, place, (key, size, None)))
            if divided(f, key)[1] != []:
                self.assert_not(f, p, with_fork(told, at, place, (key, None, None)))
            self.assert_not(f, p, with_fork(told, at, place, (key, None, part)))

    def test_another_part(self):
        for f, p, told, at, place in self.each_fork(11, 4):
            key, size, part = told[at][1][place]
            if size is None:
                continue
            first, forks = told[at]
            kind = branch_of(p, (first, forks[:place]))
            if place and len(forks[place - 1][0]) == len(key):
                kind = (p, first, kind[2][:-1])
            tower = tower_of(kind)
            zero, one = tower.zero(), tower.one()
            for other in ([zero, one], times_poly(tower, part, part), part[:-1] + [zero], part + [zero], [one],
                          part[:-1] + [1], [[part[0]]] + part[1:], [tower.plus(part[0], one)] + part[1:], [one] * 40,
                          [tuple(part[0])] + part[1:]):
                changed = with_fork(told, at, place, (key, size, other))
                if other != part and changed[at] not in told:
                    self.assert_not(f, p, changed)

    def test_a_fork_too_few_or_too_many(self):
        for f, p, told, at, place in self.each_fork(12, 4):
            first, forks = told[at]
            self.assert_not(f, p, with_forks(told, at, forks[:place]))
            if place == len(forks) - 1 or len(forks[place + 1][0]) != len(forks[place][0]):
                # Without a key that was exchanged the next one may stand: it belongs to the branch ahead, too.
                self.assert_not(f, p, with_forks(told, at, forks[:place] + forks[place + 1:]))
            self.assert_not(f, p, with_forks(told, at, forks[:place + 1] + forks[place:]))
            self.assert_not(f, p, with_forks(told, at, forks + forks[place:place + 1]))
            if forks[-1][1] is not None:
                # One more, as it would follow: but the part goes once, so there is nothing to follow.
                kind = branch_of(p, told[at])
                key = next_key(kind)
                more = with_other_keys(random.Random(0), f, kind, forks, Fraction(0), key)
                self.assertGreater(len(more), 0)
                for longer in more:
                    self.assert_not(f, p, with_forks(told, at, longer))

    def test_the_beginning_of_another_one(self):
        for f, p, told, at, place in self.each_fork(13, 3):
            first, forks = told[at]
            if place:
                self.assert_not(f, p, told + [(first, forks[:place])])
                self.assert_not(f, p, [(first, forks[:place])] + told[1:])

    def test_none_is_the_last_one(self):
        told = leaves([-4, 0, 1], 2)
        end = ([2, 1], None, None)
        ahead = told[0][1][0]
        self.assertIs(lets_by([-4, 0, 1], 2, [([0, 1], [ahead, end]), told[1]]), True)
        self.assert_not([-4, 0, 1], 2, [([0, 1], [ahead, end, end]), told[1]])
        self.assert_not([-4, 0, 1], 2, [([0, 1], [ahead, end, told[1][1][1]]), told[1]])
        self.assert_not([-4, 0, 1], 2, [([0, 1], [end]), told[1]])
        self.assert_not([-4, 0, 1], 2, [([0, 1], [ahead, end]), ([0, 1], [ahead, ([-2, 1], None, None)])])

    def test_parting_at_unlike_keys(self):
        # Each of these leaves is in order by itself: at 1 and 17 by 2, with the keys x + 15 and x + 31.
        f = [17, -18, 1]
        ahead = leaves(f, 2)[0][1][:3]
        straight = [[1], [1]]
        near, far = ([15, 1], (5, 1), straight), ([15, 1], (4, 1), straight)
        near_by_31, far_by_31 = ([31, 1], (4, 1), straight), ([31, 1], (5, 1), straight)
        self.assertIs(lets_by(f, 2, [([1, 1], ahead + [near]), ([1, 1], ahead + [far])]), True)
        self.assertIs(lets_by(f, 2, [([1, 1], ahead + [near_by_31]), ([1, 1], ahead + [far_by_31])]), True)
        for one in (near, far):
            for other in (near_by_31, far_by_31):
                self.assert_not(f, 2, [([1, 1], ahead + [one]), ([1, 1], ahead + [other])])

    def test_an_exchanged_key_with_no_greater_size(self):
        # At 3 and 12, and at 6 or 9 by 3: behind the key of 3 and 12 the other's side is not to be gone through.
        # At 3 and 30, and at 12 it is behind two keys that were exchanged.
        for zeros, size in (((3, 12, 6), (1, 1)), ((3, 12, 24), (1, 1)), ((3, 30, 12), (2, 1))):
            f = product_of([[-zero, 1] for zero in zeros])
            told = leaves(f, 3)
            most = max(len(forks) for first, forks in told)
            deep = [leaf for leaf in told if len(leaf[1]) == most]
            shallow = [leaf for leaf in told if len(leaf[1]) < most]
            self.assertEqual((len(deep), len(shallow)), (2, 1))
            ahead = deep[0][1][:-1]
            key = deep[0][1][-1][0]
            tower = Tower(3, [[0, 1]])
            rests = rest_poly((3, [0, 1], []), key, size, f)
            for part, often in parts_of(tower, times_poly(tower, rests, [tower.back(rests[-1])])):
                self.assertEqual(often, 1)
                self.assert_not(f, 3, deep + [([0, 1], ahead + [(key, size, part)])])
            self.assertIs(lets_by(f, 3, deep + shallow), True)

    def test_any_thing(self):
        for thing in (None, True, False, 0, 1, -5, 10 ** 999, "", "leaves", "a" * 2000, [], (), [None], [[]], [()], [1],
                      [True], [""], [([0, 1], [])], ([0, 1], []), [([0, 1],)], [([0, 1], [], [])], [0] * 200,
                      [([0, 1], [([0, 1], (1, 1), [[1], [1]])])] * 200, [[[[[[[[[[[[]]]]]]]]]]]],
                      [((((((((((((),),),),),),),),),),),)], [([0, 1], [([0, 1], (1, 1), [[1], [1]])] * 200)],
                      [([0, 1], [([0] * 199 + [1], (1, 1), [[1], [1]])])],
                      [([0, 1], [([0, 1], (10 ** 999, 10 ** 999 - 1), [[1], [1]])])],
                      [([0, 1], [([0, 1], (1, 1), [[1]] * 200)])], [([1] * 200, [])]):
            for f, p in (([-4, 0, 1], 2), ([2, 0, 1], 3), (two_terms(12, 2), 2)):
                self.assert_not(f, p, thing)


class RefusalTest(unittest.TestCase):
    def test_refusals(self):
        for thing in ([], None, leaves([-3, 0, 1], 3)):
            for p in bounds.NO_PRIMES:
                for f in ([-3, 0, 1], None, [0, 0, 1]):
                    self.assertRaises(NoPrime, lets_by, f, p, thing)
            for f in bounds.NO_POLYNOMIALS:
                self.assertRaises(NoPolynomial, lets_by, f, 3, thing)
            for f in ([0, 0, 1], [0] * 12 + [1], multiplied([0, 0, 1], [2 ** 50, 0, 0, 0, 0, 1])):
                self.assertRaises(NotPlain, lets_by, f, 2, thing)
            self.assertRaises(TooDeep, lets_by, multiplied([0, 1], [-(3 ** 21), 1]), 3, thing)
        f = multiplied([0, 1], [-(3 ** 20), 1])
        self.assertIs(lets_by(f, 3, leaves(f, 3)), True)


class NoSearchTest(unittest.TestCase):
    def drawn_by(self, name):
        tree = ast.parse((PACKAGE / f"{name}.py").read_text(encoding="utf-8"))
        return {(row.module.split(".")[1], one.name)
                for row in tree.body if isinstance(row, ast.ImportFrom) for one in row.names}

    def test_no_search_is_drawn(self):
        reached, left = set(), ["looker"]
        while left:
            name = left.pop()
            if name not in reached:
                reached.add(name)
                left += [module for module, one in self.drawn_by(name)]
        self.assertEqual(reached & {"leaves", "factors", "basis", "desk"}, set())
        self.assertEqual({one for module, one in self.drawn_by("looker")} & {"parts_of", "next_key"}, set())


class OwnTest(unittest.TestCase):
    """Point 2: nothing handed in is changed or kept."""

    def test_own(self):
        for f, p in all_asked(14, 2):
            told = leaves(f, p)
            handed = copy.deepcopy((f, told))
            self.assertIs(lets_by(handed[0], p, handed[1]), True)
            self.assertEqual(handed, (f, told))
            samples.spoil(handed[1])
            self.assertIs(lets_by(handed[0], p, handed[1]), False)
            self.assertIs(lets_by(f, p, told), True)

    def test_samples(self):
        # There are branches of several steps, and keys that are exchanged, among what is asked.
        steps = [len(branch_of(p, leaf)[2]) for f, p in all_asked(1, 12) for leaf in leaves(f, p)]
        self.assertGreaterEqual(max(steps), 2)
        numbers = {numbers_of(branch_of(p, leaf)) for f, p in all_asked(1, 12) for leaf in leaves(f, p)}
        self.assertGreater(len(numbers), 8)


if __name__ == "__main__":
    unittest.main()
