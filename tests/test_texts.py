"""Polynomials as texts: point 27."""

import itertools
import random
import unittest

from branchdepth.errors import NoText
from branchdepth.texts import number_text, read_polynomial, written

KNOWN = (
    ([], "0"), ([1], "1"), ([-1], "-1"), ([7], "7"), ([-120], "-120"), ([0, 1], "x"), ([0, -1], "-x"), ([0, 2], "2*x"),
    ([0, -2], "-2*x"), ([1, 1], "x + 1"), ([-1, 1], "x - 1"), ([1, -1], "-x + 1"), ([0, 0, 1], "x^2"),
    ([-4, 0, 1], "x^2 - 4"), ([0, -1, 1], "x^2 - x"), ([0, 1, -1], "-x^2 + x"),
    ([10, 0, -10, 0, 0, 3], "3*x^5 - 10*x^2 + 10"), ([0] * 12 + [1], "x^12"),
    ([-1] * 13, "-x^12 - x^11 - x^10 - x^9 - x^8 - x^7 - x^6 - x^5 - x^4 - x^3 - x^2 - x - 1"),
    ([0] * 12 + [-11], "-11*x^12"), ([10 ** 60 - 1, 1 - 10 ** 60], f"-{'9' * 60}*x + {'9' * 60}"))

NO_TEXTS = (
    # A sign left out, put in or put otherwise.
    "", " ", "+", "-", "+x", "+1", "x 1", "x1", "x + ", " + x", "x +", "+ x", "x + + 1", "x - - 1", "x + -1", "x - -1",
    "x + - 1", "x - +1", "--x", "-+x", "- x", "-", "- 1", "x^2 x", "x^2 + x 1", "x ++ 1", "x -- 1", "x * 2 + 1",
    "2x", "2 x", "x2", "x*2", "x*x", "*x", "2*", "2**x", "2*x*", "2*x^", "x^", "^2", "x^^2", "x**2", "x^x", "x^-1",
    "x^+2", "x^ 2", "x ^2", "2 *x", "2* x", "2*3", "2*3*x", "xx", "x^2x", "X", "y", "x^2 + y", "(x)", "x/2", "1.0",
    "1e3", "x = 1", "x,1", "x;1", "x + 1;", "0x1", "1_000", "None", "[0, 1]", "x\n", "\nx", "x\t+ 1", "x + 1\n",
    "x\u00a0+ 1",
    # Blanks too many or too few.
    " x", "x ", "x  + 1", "x +  1", "x+1", "x +1", "x+ 1", "x-1", "x -1", "x- 1", "x^2 +x", "x^2 + x ", "  0", "0 ",
    " 0",
    # Noughts.
    "-0", "+0", "00", "01", "-01", "0*x", "0*x^2", "-0*x", "x + 0", "x - 0", "x^2 + 0*x + 1", "0 + 1", "0 + x", "02*x",
    "x^02", "x^00", "x + 01", "0x",
    # What is not written.
    "1*x", "-1*x", "1*x^2", "x^2 + 1*x", "x^1", "x^0", "2*x^1", "2*x^0", "x^2 + x^1", "x + x^0", "x + 1*1", "1*1",
    # Powers above 12.
    "x^13", "x^14", "x^20", "x^100", f"x^{10 ** 59}", f"x^{10 ** 61}", "2*x^13 + 1",
    # Terms out of order or twice.
    "1 + x", "x + x^2", "x^2 + x^3", "x + x", "1 + 1", "x - x", "1 - 1", "x^2 - x^2", "x^2 + x + x", "x^2 + 1 + x",
    "x + 1 + 1", "x + 1 - 1", "x^3 + x^2 + x^2",
    # Sixty-one figures.
    "1" * 61, "-" + "1" * 61, f"{'1' * 61}*x", f"x + {'1' * 61}", f"x^2 - {'9' * 61}*x", "9" * 2000,
    # Figures and signs of other scripts.
    "\u0661", "x^\u00b2", "x\u00b2", "\u2212x", "x \u2212 1", "\uff11", "\u0445", "\u00b2*x")

NO_TEXTS_AT_ALL = (
    None, True, False, 0, 1, -5, 10 ** 999, [], [0, 1], ["x"], (), ("x",), [[]], (("x",),), [None], ["0"])


class WrittenTest(unittest.TestCase):
    def test_known_ones(self):
        for f, text in KNOWN:
            with self.subTest(text):
                self.assertEqual(written(f), text)
                self.assertIs(type(written(f)), str)

    def test_against_terms_by_hand(self):
        source = random.Random(1)
        for turn in range(300):
            f = [source.choice((0, 0, 1, -1, 2, -10, 10 ** 20)) for place in range(source.randrange(13))]
            while f and f[-1] == 0:
                f.pop()
            terms = []
            for power, number in enumerate(f):
                if number:
                    letter = {0: "", 1: "x"}.get(power, f"x^{power}")
                    amount = str(abs(number)) if abs(number) != 1 or power == 0 else ""
                    terms.insert(0, ("-" if number < 0 else "+", amount + ("*" if amount and letter else "") + letter))
            text = " ".join(f"{sign} {term}" for sign, term in terms)
            text = text[2:] if text.startswith("+") else text.replace("- ", "-", 1)
            with self.subTest(f=f):
                self.assertEqual(written(f), text or "0")

    def test_beyond_what_is_read(self):
        self.assertEqual(written([0] * 60 + [1]), "x^60")
        self.assertEqual(written([10 ** 60, 1]), "x + 1" + "0" * 60)
        # However many figures: Python itself writes some thousand at once.
        for many in (63, 64, 65, 127, 128, 129, 1000, 4299, 4300, 4301, 9000):
            self.assertEqual(written([10 ** many]), "1" + "0" * many)
            self.assertEqual(written([-(10 ** many) + 1, 1]), "x - " + "9" * many)
            self.assertEqual(written([0, 10 ** many + 7]), "1" + "0" * (many - 1) + "7*x")
            self.assertEqual(number_text(-(10 ** many)), "-1" + "0" * many)
        self.assertEqual(number_text(0), "0")

    def test_what_is_handed_in_stays(self):
        f = [1, -2, 0, 3]
        written(f)
        self.assertEqual(f, [1, -2, 0, 3])


class ReadTest(unittest.TestCase):
    def test_known_ones(self):
        for f, text in KNOWN:
            with self.subTest(text):
                told = read_polynomial(text)
                self.assertIs(type(told), list)
                self.assertEqual(told, f)
                self.assertTrue(all(type(number) is int for number in told))

    def test_written_and_read_again(self):
        source = random.Random(2)
        for turn in range(500):
            most = source.choice((1, 2, 10, 10 ** 30, 10 ** 60 - 1))
            f = [source.choice((0, 1, -1, most, -most, source.randrange(-most, most + 1)))
                 for place in range(source.randrange(14))]
            while f and f[-1] == 0:
                f.pop()
            with self.subTest(f=f):
                self.assertEqual(read_polynomial(written(f)), f)

    def test_each_told_list_is_a_new_one(self):
        for f, text in KNOWN:
            told = read_polynomial(text)
            told.append(5)
            self.assertEqual(read_polynomial(text), f)

    def test_no_texts(self):
        for text in NO_TEXTS:
            with self.subTest(text):
                self.assertRaises(NoText, read_polynomial, text)

    def test_things_that_are_no_texts(self):
        for thing in NO_TEXTS_AT_ALL:
            with self.subTest(thing):
                self.assertRaises(NoText, read_polynomial, thing)

    def test_just_those_that_are_written(self):
        # All short texts of these signs: what is read is written so again, and nothing of the sort is left out.
        wanted = {written(list(f)) for many in range(4) for f in itertools.product(range(-12, 13), repeat=many)
                  if not f or f[-1]}
        for many in range(1, 6):
            for signs in itertools.product("x^*+- 012", repeat=many):
                text = "".join(signs)
                try:
                    told = read_polynomial(text)
                except NoText:
                    self.assertNotIn(text, wanted)
                    continue
                self.assertEqual(written(told), text)

    def test_one_sign_otherwise(self):
        source = random.Random(3)
        for f, text in KNOWN:
            for turn in range(60):
                at = source.randrange(len(text) + 1)
                sign = source.choice("x^*+- 0129a.")
                other = source.choice((text[:at] + text[at + 1:], text[:at] + sign + text[at:],
                                       text[:at] + sign + text[at + 1:]))
                with self.subTest(other):
                    try:
                        told = read_polynomial(other)
                    except NoText:
                        continue
                    self.assertEqual(written(told), other)
                    self.assertLessEqual(len(told), 13)


if __name__ == "__main__":
    unittest.main()
