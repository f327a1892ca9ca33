"""Point 3: the bound that limits.py defines."""

import unittest

from nearslot import limits


class Limits(unittest.TestCase):
    def test_most_listed(self):
        self.assertEqual(limits.MOST_LISTED, 300)
        self.assertIs(type(limits.MOST_LISTED), int)


if __name__ == "__main__":
    unittest.main()
