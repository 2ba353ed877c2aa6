"""Z2: the bounds."""

import unittest

from twobricks import bounds


class BoundsTest(unittest.TestCase):
    def test_all_eight(self):
        expected = {
            "MAX_DIMS": 4, "MAX_SIDE": 10 ** 12, "MAX_KINDS": 4, "MAX_CELLS": 400,
            "MAX_FEW": 20, "MAX_ROWS": 1000, "HISTORY": 30, "BATCH": 20,
        }
        found = {name: value for name, value in vars(bounds).items() if not name.startswith("__")}
        self.assertEqual(found, expected)
        for name, value in found.items():
            self.assertIs(value.__class__, int, name)


if __name__ == "__main__":
    unittest.main()
