"""The bounds are those that the document tells."""

import unittest

from heldapart import bounds

TOLD = {
    "MAX_NAMES": 6,
    "MAX_LOOKS": 30,
    "MAX_PARTS": 8,
    "MAX_CLAUSES": 64,
    "MAX_CASES": 8192,
    "MAX_STATEMENTS": 40,
    "MAX_DEEP": 4,
    "MAX_FUNCTIONS": 6,
    "MAX_EDITS": 40,
}


class Bounds(unittest.TestCase):
    def test_each_bound(self):
        for name, worth in TOLD.items():
            with self.subTest(name):
                self.assertIs(type(getattr(bounds, name)), int)
                self.assertEqual(getattr(bounds, name), worth)


if __name__ == "__main__":
    unittest.main()
