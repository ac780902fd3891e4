"""The refusals: interface, branchdepth/errors.py."""

import unittest

from branchdepth import errors

NAMES = ("NoPrime", "NoPolynomial", "NotPlain", "TooDeep", "NoTower", "NoSize", "NoText", "NoRow")


class ErrorsTest(unittest.TestCase):
    def test_base_stands_under_value_error(self):
        self.assertEqual(errors.BranchError.__bases__, (ValueError,))

    def test_each_stands_straight_under_the_base(self):
        for name in NAMES:
            with self.subTest(name):
                refusal = getattr(errors, name)
                self.assertEqual(refusal.__name__, name)
                self.assertEqual(refusal.__bases__, (errors.BranchError,))

    def test_none_stands_under_another(self):
        for name in NAMES:
            for other in NAMES:
                if name != other:
                    with self.subTest(name=name, other=other):
                        self.assertFalse(issubclass(getattr(errors, name), getattr(errors, other)))

    def test_each_is_raised_and_taken_as_the_base(self):
        for name in NAMES:
            with self.subTest(name):
                with self.assertRaises(errors.BranchError) as taken:
                    raise getattr(errors, name)("why")
                self.assertEqual(str(taken.exception), "why")
                self.assertEqual(type(taken.exception).__name__, name)


if __name__ == "__main__":
    unittest.main()
