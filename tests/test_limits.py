"""The sixteen constants of thirdback.limits."""

import unittest

from thirdback import limits

LISTED = {
    "MOST_OPERATIONS": 8, "MOST_FACTS": 4, "MOST_FORMULAS": 6, "MOST_THINGS": 600,
    "MOST_ROWS": 12, "MOST_TESTS": 4, "MOST_BOXES": 8, "MOST_SIDE": 3,
    "MOST_INNER": 6, "MOST_TRIPLES": 8, "MOST_STORED": 6, "MOST_CELLS": 200,
    "MOST_LOST": 9, "MOST_CHANGES": 6, "MOST_TRIALS": 4096, "MOST_GROWN": 40,
}


class LimitsTest(unittest.TestCase):
    def test_each_constant_has_the_listed_value(self):
        self.assertEqual(16, len(LISTED))
        for name, number in LISTED.items():
            with self.subTest(name):
                self.assertEqual(number, getattr(limits, name))
                self.assertIs(int, getattr(limits, name).__class__)


if __name__ == "__main__":
    unittest.main()
