"""The limits (promise 1)."""

import unittest

from sizechains import limits


class LimitsTest(unittest.TestCase):

    def test_limits(self):
        found = (limits.MOST_SIDE, limits.MOST_STEPS, limits.MOST_RECORDS, limits.MOST_DEEDS)
        self.assertEqual(found, (1000000, 60, 40, 400))
        self.assertEqual([type(limit) for limit in found], [int] * 4)


if __name__ == "__main__":
    unittest.main()
