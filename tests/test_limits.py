"""Tests of filledrows.limits."""

import unittest

from filledrows import limits

VALUES = {
    "MOST_LAYERS": 4,
    "MOST_NEAR": 3,
    "MOST_EVERY": 3,
    "MOST_PLACES": 60,
    "MOST_ROUNDS": 6,
    "MOST_WIDTH": 8,
    "MOST_EVER": 4,
}


class Limits(unittest.TestCase):

    def test_each_constant_has_its_value(self):
        for name, value in VALUES.items():
            with self.subTest(name):
                self.assertEqual(getattr(limits, name), value)

    def test_each_constant_is_an_integer(self):
        for name in VALUES:
            with self.subTest(name):
                self.assertIs(type(getattr(limits, name)), int)


if __name__ == "__main__":
    unittest.main()
