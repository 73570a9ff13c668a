"""[0.2] What a number and a name are, and the row of names of [1.3]."""

import unittest

from oncekinds.basics import is_name, is_number, lettered
from tests.samples import first_unlike, letterings, things


class BasicsTest(unittest.TestCase):

    def test_numbers(self):
        for thing in (0, 1, 7, 10 ** 39):
            self.assertIs(is_number(thing), True)
        for thing in (-1, -10 ** 39, True, False, None, "0", b"0", [0], (0,), {0: 0}):
            with self.subTest(thing=thing):
                self.assertIs(is_number(thing), False)

    def test_names(self):
        for thing in ("a", "z", "az", "abcdefgh", "zzzzzzzz"):
            self.assertIs(is_name(thing), True)
        wrong = ("", "abcdefghi", "A", "aB", "a1", "a b", " a", "a ", "a\n", "/a", "@", "a_", "`", "{", b"a", 0, None)
        for thing in wrong:
            with self.subTest(thing=thing):
                self.assertIs(is_name(thing), False)

    def test_any_object_is_judged(self):
        for thing in things():
            with self.subTest(thing=repr(thing)[:60]):
                self.assertIn(is_number(thing), (True, False))
                self.assertIn(is_name(thing), (True, False))

    def test_row_of_names(self):
        row = letterings(30000)
        self.assertEqual([row[at] for at in (0, 25, 26, 27, 701, 702, 703)], ["a", "z", "aa", "ab", "zz", "aaa", "aab"])
        self.assertIsNone(first_unlike([lettered(number) for number in range(30000)], row))


if __name__ == "__main__":
    unittest.main()
