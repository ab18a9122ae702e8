"""Point 101: the integers of the module limits."""

import unittest

from exactkinds import limits

TOLD = {
    "MOST_NAME": 12,
    "MOST_MAKERS": 5,
    "MOST_FAMILIES": 4,
    "MOST_CONSTRUCTORS": 16,
    "MOST_PARTS": 3,
    "MOST_NAMES": 4,
    "MOST_DEEP": 4,
    "MOST_FUNCTIONS": 12,
    "MOST_CLAUSES": 12,
    "MOST_PATTERN": 6,
    "MOST_BODY": 30,
    "MOST_TEXT": 6000,
    "MOST_OPEN": 40,
}


class Limits(unittest.TestCase):

    def test_each_integer(self):
        for name, value in TOLD.items():
            self.assertEqual(getattr(limits, name), value, name)
            self.assertIs(type(getattr(limits, name)), int, name)

    def test_there_are_no_others(self):
        self.assertEqual({name for name in vars(limits) if name.startswith("MOST")}, set(TOLD))


if __name__ == "__main__":
    unittest.main()
