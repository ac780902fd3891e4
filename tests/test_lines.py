"""Broken lines: points 11 and 12."""

import copy
import random
import unittest
from fractions import Fraction

from branchdepth.lines import joined, sides


def told_as(number):
    return (number.numerator, number.denominator)


def drawn_sizes(source, many, noughts=3, bound=6):
    """Fractions and None, the last one a fraction."""
    told = []
    for place in range(many):
        if place < many - 1 and source.randrange(10) < noughts:
            told.append(None)
        else:
            told.append(told_as(Fraction(source.randrange(-bound, bound + 1), source.choice((1, 1, 2, 3)))))
    return told


def sides_by_hand(sizes):
    """All pairs of places such that no place lies below the line through both, and none upon it but between them."""
    points = [(place, Fraction(*size)) for place, size in enumerate(sizes) if size is not None]
    told = []
    for s, low in points:
        for t, high in points:
            if s < t:
                slope = (high - low) / (t - s)
                over = [size - (low + slope * (place - s)) for place, size in points]
                upon = [place for (place, size), more in zip(points, over) if more == 0]
                if min(over) == 0 and (min(upon), max(upon)) == (s, t):
                    told.append((s, t, told_as(slope)))
    return sorted(told)


class SidesTest(unittest.TestCase):
    def assert_sides(self, sizes, wanted):
        told = sides(sizes)
        self.assertIs(type(told), list)
        for side in told:
            self.assertIs(type(side), tuple)
            s, t, slope = side
            self.assertIs(type(slope), tuple)
            for number in (s, t, slope[0], slope[1]):
                self.assertIs(type(number), int)
        self.assertEqual(told, wanted)

    def test_ordinary(self):
        self.assert_sides([(2, 1), (1, 1), (0, 1)], [(0, 2, (-1, 1))])
        self.assert_sides([(2, 1), (0, 1), (0, 1)], [(0, 1, (-2, 1)), (1, 2, (0, 1))])
        self.assert_sides([(1, 1), None, (0, 1)], [(0, 2, (-1, 2))])
        self.assert_sides([(1, 1), (5, 1), (0, 1)], [(0, 2, (-1, 2))])
        self.assert_sides([(3, 2), (1, 3)], [(0, 1, (-7, 6))])

    def test_one_place_alone(self):
        self.assert_sides([(0, 1)], [])
        self.assert_sides([(7, 3)], [])
        self.assert_sides([None, None, (-1, 2)], [])

    def test_none_at_the_beginning(self):
        self.assert_sides([None, (4, 1), None, (0, 1)], [(1, 3, (-2, 1))])
        self.assert_sides([None, None, (0, 1), (1, 1)], [(2, 3, (1, 1))])

    def test_places_upon_and_above_a_side(self):
        self.assert_sides([(3, 1), (2, 1), (1, 1), (0, 1)], [(0, 3, (-1, 1))])
        self.assert_sides([(3, 1), (9, 4), (3, 2), (3, 4), (0, 1)], [(0, 4, (-3, 4))])
        self.assert_sides([(3, 1), (9, 1), (1, 1), (2, 1), (0, 1), (0, 1), (5, 1), (2, 1)],
                          [(0, 2, (-1, 1)), (2, 4, (-1, 2)), (4, 5, (0, 1)), (5, 7, (1, 1))])
        self.assert_sides([(0, 1), (0, 1), (0, 1)], [(0, 2, (0, 1))])

    def test_slopes_in_lowest_terms(self):
        self.assert_sides([(1, 2), None, None, None, (-3, 2)], [(0, 4, (-1, 2))])
        self.assert_sides([(1, 1), None, None, None, None, None, (5, 1)], [(0, 6, (2, 3))])

    def test_against_all_pairs(self):
        source = random.Random(1)
        for many in (1, 2, 3, 4, 5, 8, 13, 25):
            for turn in range(60):
                sizes = drawn_sizes(source, many, source.choice((0, 3, 7)), source.choice((1, 2, 6, 10 ** 30)))
                with self.subTest(sizes=sizes):
                    self.assert_sides(sizes, sides_by_hand(sizes))

    def test_slopes_rise_from_the_first_size_to_the_last(self):
        source = random.Random(2)
        for turn in range(100):
            sizes = drawn_sizes(source, 20)
            told = sides(sizes)
            first = min(place for place, size in enumerate(sizes) if size is not None)
            places = [first]
            for s, t, slope in told:
                self.assertEqual(s, places[-1])
                places.append(t)
            self.assertEqual(places[-1], 19)
            slopes = [Fraction(*slope) for s, t, slope in told]
            self.assertEqual(slopes, sorted(set(slopes)))

    def test_two_hundred_places(self):
        sizes = [(place * place, 7) if place % 7 else (place * place // 7, 1) for place in range(-100, 100)]
        told = sides(sizes)
        self.assertEqual(len(told), 199)
        self.assertEqual([s for s, t, slope in told], list(range(199)))


class JoinedTest(unittest.TestCase):
    def test_ordinary(self):
        self.assertEqual(joined([(1, 1), (0, 1)], [(2, 1), (0, 1)]), [(3, 1), (1, 1), (0, 1)])
        self.assertEqual(joined([(1, 2), None, (0, 1)], [(1, 3), (0, 1)]), [(5, 6), (1, 2), (1, 3), (0, 1)])
        self.assertEqual(joined([(1, 2)], [(1, 2)]), [(1, 1)])
        self.assertEqual(joined([None, (0, 1)], [None, (0, 1)]), [None, None, (0, 1)])

    def test_none_between(self):
        self.assertEqual(joined([(0, 1), None, None, (0, 1)], [(5, 1)]), [(5, 1), None, None, (5, 1)])
        self.assertEqual(joined([(0, 1), None, None, (0, 1)], [(0, 1), (1, 1)]),
                         [(0, 1), (1, 1), None, (0, 1), (1, 1)])

    def test_against_all_sums(self):
        source = random.Random(3)
        for many, more in ((1, 1), (1, 5), (5, 1), (3, 4), (7, 7), (12, 3)):
            for turn in range(30):
                one, other = drawn_sizes(source, many), drawn_sizes(source, more)
                wanted = []
                for k in range(many + more - 1):
                    sums = [Fraction(*one[i]) + Fraction(*other[k - i]) for i in range(many)
                            if 0 <= k - i < more and one[i] is not None and other[k - i] is not None]
                    wanted.append(told_as(min(sums)) if sums else None)
                with self.subTest(one=one, other=other):
                    told = joined(one, other)
                    self.assertIs(type(told), list)
                    self.assertEqual(told, wanted)
                    self.assertEqual(joined(other, one), wanted)

    def test_lengths_by_slope(self):
        source = random.Random(4)
        for turn in range(150):
            one, other = drawn_sizes(source, source.randrange(1, 9)), drawn_sizes(source, source.randrange(1, 9))
            lengths = {}
            for s, t, slope in sides(one) + sides(other):
                lengths[slope] = lengths.get(slope, 0) + t - s
            with self.subTest(one=one, other=other):
                self.assertEqual({slope: t - s for s, t, slope in sides(joined(one, other))}, lengths)


class OwnTest(unittest.TestCase):
    def test_lists_stay_and_are_new(self):
        one, other = [(1, 1), None, (0, 1)], [(2, 3)]
        kept = copy.deepcopy((one, other))
        first, second = sides(one), joined(one, other)
        third, fourth = copy.deepcopy((first, second))
        self.assertEqual((one, other), kept)
        first.append(1)
        first[0] = None
        second[0] = None
        second.append(1)
        self.assertEqual((one, other), kept)
        self.assertEqual((sides(one), joined(one, other)), (third, fourth))
        for told in (joined(one, [(0, 1)]), joined([(0, 1)], one)):
            self.assertEqual(told, one)
            self.assertIsNot(told, one)
        lone = sides([(0, 1)])
        lone.append(1)
        self.assertEqual(sides([(0, 1)]), [])


if __name__ == "__main__":
    unittest.main()
