"""The desk: point 28."""

import copy
import itertools
import random
import unittest

from branchdepth.basis import whole_basis
from branchdepth.desk import Desk
from branchdepth.errors import BranchError, NoPolynomial, NoPrime, NoRow, NoText, NotPlain, TooDeep
from branchdepth.factors import factors, roots
from branchdepth.leaves import in_common, index_of, leaf_numbers, leaves
from branchdepth.plains import discriminant
from branchdepth.polys import multiplied
from branchdepth.sizes import size_of_number
from branchdepth.texts import written
from piece_samples import PIECES, drawn_pieces, product_of, two_terms
from test_texts import NO_TEXTS
from tower_samples import PRIMES

NO_ROWS = (
    # No words that there are, or not as many as there should be.
    "", " ", "x", "2", "ok", "Prime 2", "PRIME 2", "primes 2", "prim 2", "prime", "prime 2 3", "polynomial",
    "polynomials x",
    "Polynomial x", "poly x", "size", "size 1 2", "sizes 1", "discriminant 1", "discriminant x", "discriminants",
    "numbers 1",
    "number", "index 1", "indexes", "common", "common 1", "common 1 2 3", "factors", "factors 1 2", "factor 1", "roots",
    "roots 1 2", "root 1", "basis 1", "bases", "help", "leaves", "say prime 2", "prime=2", "prime,2", "prime:2",
    # Blanks.
    " prime 2", "prime 2 ", "prime  2", "prime\t2", "prime\n2", "prime 2\n", "prime ", "prime  ", " polynomial x",
    "polynomial\tx", "size 5 ", "size  5", " size 5", "size ", "discriminant ", " discriminant", "numbers ", " numbers",
    "index ", "basis ", "basis\n", "common 1  2", "common  1 2", "common 1 2 ", "factors 1 ", "factors  1", "factors ",
    "roots ", "roots 1 ", "prime\u00a02",
    # Numbers that are not written plainly.
    "prime x", "prime +2", "prime 02", "prime 2.0", "prime 2.", "prime -", "prime --2", "prime -02", "prime -0",
    "prime 00",
    "prime 0x2", "prime 1_1", "prime \u0662", "prime two", "prime 1e1", "prime (2)", "size +5", "size 05", "size -0",
    "size 00", "size -00", "size -05", "size 1/2", "size (1, 2)", "size x", "size -", "size 5-", "size " + "1" * 61,
    "size -" + "1" * 61, "prime " + "1" * 61, "common x 1", "common 1 x", "common 01 2", "common 1 -0", "common +1 2",
    "common 1 " + "2" * 61,
    "factors x", "factors 01", "factors +1", "factors -0", "factors 1.0", "factors " + "1" * 61, "roots x", "roots 01",
    "roots +1", "roots -0", "roots -", "roots \u00b2", "size \u00b2")

NO_TEXTS_AT_ALL = (
    None, True, False, 0, 2, -1, 10 ** 999, [], ["prime 2"], ("prime 2",), (), ["prime", "2"], [[]], (("index",),),
    [None])


def asked(f, p):
    """A desk that has a polynomial and a prime."""
    desk = Desk()
    desk.say(f"polynomial {written(f)}")
    desk.say(f"prime {p}")
    return desk


def drawn_products(seed, many, most_degree=12, most_size=40):
    source = random.Random(seed)
    for p in sorted(PIECES):
        for turn in range(many):
            yield product_of([f for f, numbers in drawn_pieces(source, p, most_degree, most_size)]), p


def assert_has(test, desk, f, p):
    """Whether the desk has this polynomial and this prime, as far as its answers tell."""
    test.assertEqual(desk.say("discriminant"), str(discriminant(f)))
    for prime in PRIMES:
        test.assertEqual(desk.say(f"size {prime}"), "1" if prime == p else "0")
    try:
        wanted = " ".join(f"{one},{other}" for one, other in [leaf_numbers(p, leaf) for leaf in leaves(f, p)])
    except BranchError as refusal:
        test.assertRaises(type(refusal), desk.say, "numbers")
    else:
        test.assertEqual(desk.say("numbers"), wanted)


class DeskTest(unittest.TestCase):
    def test_at_first(self):
        desk = Desk()
        self.assertEqual(desk.say("size 8"), "3")
        self.assertEqual(desk.say("discriminant"), "1")
        self.assertEqual(desk.say("numbers"), "1,1")
        self.assertEqual(desk.say("index"), "0")
        self.assertEqual(desk.say("factors 3"), "x")
        self.assertEqual(desk.say("roots 3"), "0")
        self.assertEqual(desk.say("basis"), "0")
        assert_has(self, desk, [0, 1], 2)

    def test_an_ordinary_day(self):
        desk = Desk()
        for row, answer in (
                ("polynomial x^2 - 4", "ok"), ("numbers", "1,1 1,1"), ("index", "2"), ("common 1 2", "2"),
                ("common 2 1", "2"), ("factors 5", "x + 2; x + 30"), ("factors 1", "x; x"), ("roots 3", "6 2"),
                ("roots 1", "0 0"), ("basis", "0 2"), ("discriminant", "16"), ("size 12", "2"), ("size -12", "2"),
                ("size 0", "none"), ("size 7", "0"), ("prime 3", "ok"), ("size -54", "3"), ("numbers", "1,1 1,1"),
                ("common 1 2", "0"), ("index", "0"), ("polynomial x^2 + 1", "ok"), ("numbers", "1,2"), ("roots 4", ""),
                ("factors 2", "x^2 + 1"), ("polynomial x^3 - 9", "ok"), ("numbers", "3,1"), ("index", "1"),
                ("basis", "0 0 1"), ("discriminant", "-2187"), ("prime 47", "ok"), ("size 47", "1"),
                ("polynomial x^12 - 2", "ok"), ("prime 2", "ok"), ("numbers", "12,1"), ("index", "0")):
            with self.subTest(row):
                told = desk.say(row)
                self.assertIs(type(told), str)
                self.assertEqual(told, answer)

    def test_primes(self):
        desk = Desk()
        for p in PRIMES:
            self.assertEqual(desk.say(f"prime {p}"), "ok")
            assert_has(self, desk, [0, 1], p)

    def test_sizes(self):
        for p in (2, 3, 47):
            desk = asked([0, 1], p)
            for k in (1, -1, p, -p, p ** 5, -7 * p ** 30, 10 ** 59, 10 ** 60 - 1, 1 - 10 ** 60):
                self.assertEqual(desk.say(f"size {k}"), str(size_of_number(k, p)))
            self.assertEqual(desk.say("size 0"), "none")

    def test_answered_by_what_the_functions_tell(self):
        for f, p in drawn_products(1, 8):
            desk = asked(f, p)
            told = leaves(f, p)
            with self.subTest(f=f, p=p):
                assert_has(self, desk, f, p)
                self.assertEqual(desk.say("index"), str(index_of(p, told)))
                for one, other in itertools.permutations(range(len(told)), 2):
                    common = in_common(p, told[one], told[other])
                    self.assertEqual(desk.say(f"common {one + 1} {other + 1}"), str(common[0]))
                    self.assertEqual(common[1], 1)

    def test_factors_roots_and_basis(self):
        for f, p in drawn_products(2, 8, 6, 20):
            desk = asked(f, p)
            with self.subTest(f=f, p=p):
                for n in (1, 2, 20):
                    self.assertEqual(desk.say(f"factors {n}"), "; ".join(written(one) for one in factors(f, p, n)))
                    self.assertEqual(desk.say(f"roots {n}"), " ".join(str(root) for root in roots(f, p, n)))
                self.assertEqual(desk.say("basis"), " ".join(str(k) for g, k in whole_basis(f, p)))

    def test_a_great_discriminant(self):
        f = [10 ** 60 - 1 - place for place in range(12)] + [1]
        desk = asked(f, 2)
        self.assertEqual(desk.say("discriminant"), str(discriminant(f)))

    def test_polynomials_are_kept_without_being_looked_at(self):
        # Square parts and great discriminants are kept; what needs leaves refuses them.
        desk = Desk()
        self.assertEqual(desk.say("polynomial x^2"), "ok")
        self.assertEqual(desk.say("discriminant"), "0")
        self.assertRaises(NotPlain, desk.say, "numbers")
        self.assertEqual(desk.say(f"polynomial x^2 - {2 ** 41}"), "ok")
        self.assertEqual(desk.say("discriminant"), str(2 ** 43))
        self.assertRaises(TooDeep, desk.say, "index")

    def test_two_desks(self):
        one, other = Desk(), Desk()
        one.say("polynomial x^2 - 5")
        one.say("prime 5")
        assert_has(self, one, [-5, 0, 1], 5)
        assert_has(self, other, [0, 1], 2)


class RefusalTest(unittest.TestCase):
    def assert_refused(self, desk, f, p, refusal, row):
        with self.subTest(row=row, refusal=refusal):
            self.assertRaises(refusal, desk.say, row)
        # What is refused changes nothing.
        self.assertEqual(desk.say("discriminant"), str(discriminant(f)))
        self.assertEqual(desk.say(f"size {p}"), "1")

    def test_no_row(self):
        for f, p in (([-4, 0, 1], 3), ([0, 0, 1], 2)):
            desk = asked(f, p)
            for row in NO_ROWS + NO_TEXTS_AT_ALL:
                self.assert_refused(desk, f, p, NoRow, row)
            assert_has(self, desk, f, p)

    def test_no_text(self):
        desk = asked([-4, 0, 1], 3)
        for text in NO_TEXTS:
            self.assert_refused(desk, [-4, 0, 1], 3, NoText, f"polynomial {text}")
        # All that stands behind the first blank is read as it stands.
        for row in ("polynomial ", "polynomial  x", "polynomial x ", "polynomial x  + 1", "polynomial polynomial x"):
            self.assert_refused(desk, [-4, 0, 1], 3, NoText, row)
        assert_has(self, desk, [-4, 0, 1], 3)

    def test_no_prime(self):
        desk = asked([-4, 0, 1], 3)
        for k in (0, 1, -2, 4, 49, 53, 10 ** 60 - 1, 1 - 10 ** 60):
            self.assert_refused(desk, [-4, 0, 1], 3, NoPrime, f"prime {k}")
        assert_has(self, desk, [-4, 0, 1], 3)

    def test_no_polynomial(self):
        desk = asked([-4, 0, 1], 3)
        for f in ([], [1], [-1], [5], [0, 2], [0, -1], [1, 0, -1], [0] * 12 + [2], [0] * 12 + [-1], [10 ** 60 - 1]):
            self.assert_refused(desk, [-4, 0, 1], 3, NoPolynomial, f"polynomial {written(f)}")
        assert_has(self, desk, [-4, 0, 1], 3)

    def test_not_plain(self):
        for f in ([0, 0, 1], [0] * 12 + [1], multiplied([0, 0, 1], [2 ** 50, 0, 0, 0, 0, 1])):
            desk = asked(f, 2)
            for row in ("numbers", "index", "common 1 2", "common 1 1", "common 0 9", "common -1 2", "factors 1",
                        "factors 0", "factors 21", "factors -5", "roots 1", "roots 21", "basis"):
                self.assert_refused(desk, f, 2, NotPlain, row)
            # What is no row is so ahead of that.
            for row in ("numbers 1", "common 1", "common 1 x", "factors", "factors x", "roots -0", "basis "):
                self.assert_refused(desk, f, 2, NoRow, row)

    def test_too_deep(self):
        f = multiplied([0, 1], [-(2 ** 21), 1])
        desk = asked(f, 2)
        for row in ("numbers", "index", "common 1 2", "common 1 1", "common 7 8", "factors 1", "roots 1", "basis"):
            self.assert_refused(desk, f, 2, TooDeep, row)
        self.assert_refused(desk, f, 2, NoRow, "common 1")
        # Leaves there are, but neither factors nor a basis.
        f = multiplied([0, 1], [-(2 ** 20), 1])
        desk = asked(f, 2)
        self.assertEqual(desk.say("common 1 2"), "20")
        for row in ("factors 1", "roots 1", "basis"):
            self.assert_refused(desk, f, 2, TooDeep, row)
        desk = asked(two_terms(7, 1), 5)
        for row in ("factors 1", "roots 1", "basis"):
            self.assert_refused(desk, two_terms(7, 1), 5, TooDeep, row)

    def test_numbers_of_figures(self):
        desk = asked([-4, 0, 1], 3)
        for n in (0, -1, 21, 22, 10 ** 60 - 1):
            self.assert_refused(desk, [-4, 0, 1], 3, TooDeep, f"factors {n}")
            self.assert_refused(desk, [-4, 0, 1], 3, TooDeep, f"roots {n}")

    def test_no_two_leaves(self):
        desk = asked([-4, 0, 1], 2)
        for one, other in ((1, 1), (2, 2), (0, 1), (1, 0), (1, 3), (3, 1), (-1, 2), (2, -1), (0, 0), (1, 10 ** 60 - 1)):
            self.assert_refused(desk, [-4, 0, 1], 2, NoRow, f"common {one} {other}")
        desk = asked([0, 1], 2)
        for one, other in ((1, 1), (1, 2), (2, 1)):
            self.assert_refused(desk, [0, 1], 2, NoRow, f"common {one} {other}")

    def test_what_is_handed_in_stays(self):
        desk = Desk()
        for thing in NO_TEXTS_AT_ALL:
            handed = copy.deepcopy(thing)
            self.assertRaises(NoRow, desk.say, handed)
            self.assertEqual(handed, thing)


if __name__ == "__main__":
    unittest.main()
