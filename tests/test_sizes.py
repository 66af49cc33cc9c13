"""The interface's row `sizes`: every name with its value."""

import unittest

from farfiles import sizes
from farfiles.words import is_word

NUMBERS = {
    "PATIENCE": 40,
    "BOUND": 20,
    "LONGEST": 30,
    "MOST": 24,
    "PIECES": 3,
    "COPIES": 2,
}


class SizesTest(unittest.TestCase):
    def test_each_number(self):
        for name, value in NUMBERS.items():
            with self.subTest(name=name):
                self.assertEqual(getattr(sizes, name), value)

    def test_each_is_a_whole_number_and_no_truth(self):
        for name in NUMBERS:
            with self.subTest(name=name):
                self.assertIs(type(getattr(sizes, name)), int)

    def test_root(self):
        self.assertEqual(sizes.ROOT, "root")
        self.assertIs(type(sizes.ROOT), str)
        self.assertIs(is_word(sizes.ROOT), True)


if __name__ == "__main__":
    unittest.main()
