"""[14]: the bounds."""

import unittest

from pilepass.bounds import MAX_COPIES, MAX_EDITS, MAX_STEPS
from tests.samples import ExactTest


class BoundsTest(ExactTest):

    def test_bounds(self):
        self.check((MAX_STEPS, MAX_COPIES, MAX_EDITS), (10, 30, 40))


if __name__ == "__main__":
    unittest.main()
