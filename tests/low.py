"""Tests under a low limit of recursion."""

import sys
import unittest


class LowTest(unittest.TestCase):
    """Deep programs and kinds must not even come near the limit that Python sets."""

    def setUp(self):
        self.limit = sys.getrecursionlimit()
        sys.setrecursionlimit(250)

    def tearDown(self):
        sys.setrecursionlimit(self.limit)
