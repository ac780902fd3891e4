"""What README.md shows is what the program answers."""

import doctest
import unittest
from pathlib import Path

README = Path(__file__).resolve().parent.parent / "README.md"


class ReadmeTest(unittest.TestCase):
    def test_examples(self):
        failed, tried = doctest.testfile(str(README), module_relative=False)
        self.assertGreater(tried, 0)
        self.assertEqual(failed, 0)


if __name__ == "__main__":
    unittest.main()
