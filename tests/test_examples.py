"""The examples of the document, as far as their functions are there; texts are told as words."""

import unittest

from oncekinds.kinding import widest
from oncekinds.kinds import Kind
from oncekinds.likeness import alike, callers_alike
from oncekinds.programs import Program
from oncekinds.reading import fault_of, program_of
from oncekinds.stepping import rest


class ExamplesTest(unittest.TestCase):

    def test_e01(self):
        self.assertEqual(rest(Program(("@", "/x", "x", "/y", "y"))).words, ("/y", "y"))

    def test_e02(self):
        self.assertEqual(widest(Program(("/f", "/x", "@", "f", "x"))).words, (">", ">", 0, 1, ">", 0, 1))

    def test_e03(self):
        # [g] ([u] u g), [f] f and [f] [x] (f x).
        one, two = Program(("/g", "@", "/u", "u", "g")), Program(("/f", "f"))
        three = Program(("/f", "/x", "@", "f", "x"))
        self.assertEqual((alike(one, two), alike(two, three), callers_alike(two, three)), (True, False, True))

    def test_e04(self):
        # ((a > b) > c) > (a > b) > c.
        kind = Kind((">", ">", ">", 0, 1, 2, ">", ">", 0, 1, 2))
        self.assertEqual(program_of(kind).words, ("/a", "/b", "@", "a", "/c", "@", "b", "c"))

    def test_e05(self):
        # (a > b) > b, (a > a) > b > b and ((a > b) > c) > (a > d) > (c > b) > d.
        rows = [(">", ">", 0, 1, 1), (">", ">", 0, 0, ">", 1, 1),
                (">", ">", ">", 0, 1, 2, ">", ">", 0, 3, ">", ">", 2, 1, 3)]
        self.assertEqual([fault_of(Kind(words)) for words in rows], [("letter", 0), ("left", 1), ("stops", 8)])


if __name__ == "__main__":
    unittest.main()
