"""[1.1] Programs in words."""

import unittest
from itertools import product

from oncekinds.errors import BadProgram, KindError, NoPlace
from oncekinds.kinds import Kind
from oncekinds.programs import Program
from tests.samples import fresh, leftward, rightward, things
from tests.trees import fault_of


def fault(words):
    """Return the index that BadProgram tells, or None for a program."""
    try:
        Program(words)
    except BadProgram as error:
        return error.index
    return None


class WordsTest(unittest.TestCase):

    def test_words_are_kept(self):
        for words in (("x",), ("/x", "x"), ("@", "x", "y"), ("/f", "/x", "@", "f", "x"),
                      ("@", "/x", "x", "/y", "y"), ("abcdefgh",), ("/abcdefgh", "abcdefgh")):
            with self.subTest(words=words):
                self.assertEqual(Program(words).words, words)
                self.assertIs(type(Program(words).words), tuple)

    def test_no_tuple(self):
        for thing in things():
            if not isinstance(thing, tuple):
                with self.subTest(thing=repr(thing)[:60]):
                    self.assertEqual(fault(thing), -1)
        self.assertEqual(fault(["x"]), -1)
        self.assertEqual(fault("x"), -1)
        self.assertEqual(fault(None), -1)

    def test_how_many_words(self):
        self.assertEqual(fault(()), -1)
        names = fresh(500)
        longest = ("/" + names[0],) + leftward(names, ())
        self.assertEqual(len(longest), 1000)
        self.assertEqual(Program(longest).words, longest)
        self.assertEqual(fault(("/" + names[1],) + longest), -1)
        self.assertEqual(len(leftward(fresh(501), ())), 1001)
        self.assertEqual(fault(leftward(fresh(501), ())), -1)
        self.assertEqual(fault((None,) * 1000), 0)
        self.assertEqual(fault((None,) * 1001), -1)

    def test_items_that_are_no_words(self):
        wrong = [thing for thing in things() if not isinstance(thing, str)]
        wrong += ["", "/", "//x", "/X", "X", "@@", "@x", "/@", " x", "x ", "/ x", "x\n", "x1", "/x1", "x/", "x/y",
                  "abcdefghi", "/abcdefghi", "\\x", "/x/y"]
        for thing in wrong:
            with self.subTest(thing=repr(thing)[:60]):
                self.assertEqual(fault((thing,)), 0)
                self.assertEqual(fault(("@", "x", thing)), 2)
                self.assertEqual(fault(("/x", thing, "x", None)), 1)
        for name in ("abcdefg", "abcdefgh"):
            self.assertIsNone(fault(("/" + name, name)))
        self.assertEqual(fault(("/abcdefghi", "abcdefghi")), 0)
        self.assertEqual(fault(("@", True, False)), 1)

    def test_words_too_many_or_too_few(self):
        self.assertEqual(fault(("x", "y")), 1)
        self.assertEqual(fault(("x", "@")), 1)
        self.assertEqual(fault(("x", "/x")), 1)
        self.assertEqual(fault(("/x", "x", "y", "z")), 2)
        self.assertEqual(fault(("@", "x", "y", "z")), 3)
        self.assertEqual(fault(("@",)), 1)
        self.assertEqual(fault(("/x",)), 1)
        self.assertEqual(fault(("@", "x")), 2)
        self.assertEqual(fault(("@", "@", "x", "y")), 4)
        self.assertEqual(fault(("/x", "@", "x")), 3)
        self.assertEqual(fault(("@",) * 1000), 1000)

    def test_second_time(self):
        self.assertEqual(fault(("@", "x", "x")), 2)
        self.assertEqual(fault(("@", "/x", "x", "x")), 3)
        self.assertEqual(fault(("@", "x", "/x", "x")), 3)
        self.assertEqual(fault(("@", "/x", "x", "/x", "x")), 3)
        self.assertEqual(fault(("/x", "/x", "x")), 1)
        self.assertEqual(fault(("/x", "/x", "y")), 1)
        self.assertEqual(fault(("@", "@", "x", "y", "@", "y", "x")), 5)

    def test_names_that_do_not_stand_in_the_body(self):
        self.assertEqual(fault(("/x", "y")), 0)
        self.assertEqual(fault(("@", "/x", "y", "x")), 1)
        self.assertEqual(fault(("@", "x", "/x", "y")), 2)
        self.assertEqual(fault(("/x", "/y", "x")), 1)
        self.assertEqual(fault(("/x", "/y", "z")), 0)
        self.assertEqual(fault(("/x", "@", "/y", "x", "y")), 2)
        self.assertIsNone(fault(("/y", "@", "/x", "x", "y")))

    def test_order_of_the_faults(self):
        # Each of these has several faults; the first of the document's list is told.
        self.assertEqual(fault(("x", "y", "A")), 2)
        self.assertEqual(fault(("@", "x", "x", "x", None)), 4)
        self.assertEqual(fault(("/x", "y", "")), 2)
        self.assertEqual(fault(("@", "x", "x", "y")), 3)
        self.assertEqual(fault(("@", "@", "x", "x")), 4)
        self.assertEqual(fault(("/x", "y", "z")), 2)
        self.assertEqual(fault(("/x", "@", "y", "y")), 3)
        self.assertEqual(fault(("@", "/x", "y", "/x", "x")), 3)
        self.assertEqual(fault(("@", "/z", "y", "y")), 3)

    def test_all_short_rows_of_words(self):
        for length in range(1, 7):
            for words in product(("@", "/x", "/y", "x", "y"), repeat=length):
                self.assertEqual(fault(words), fault_of(words), words)

    def test_an_error_is_a_kind_error(self):
        with self.assertRaises(KindError):
            Program(())


class EqualityTest(unittest.TestCase):

    def test_equal_words_make_equal_programs(self):
        self.assertTrue(Program(("/x", "x")) == Program(("/x", "x")))
        self.assertFalse(Program(("/x", "x")) != Program(("/x", "x")))
        long = leftward(fresh(400), ())
        self.assertTrue(Program(long) == Program(tuple(list(long))))

    def test_other_words_make_other_programs(self):
        for words in (("/y", "y"), ("x",), ("/x", "/y", "@", "x", "y")):
            self.assertFalse(Program(("/x", "x")) == Program(words))
            self.assertTrue(Program(("/x", "x")) != Program(words))
        self.assertFalse(Program(leftward(["x", "y", "z"], ())) == Program(rightward(["x", "y", "z"], ())))

    def test_nothing_of_another_class_is_equal(self):
        program = Program(("x",))
        others = [thing for thing in things() if not isinstance(thing, Program)]
        for other in others + [("x",), ["x"], None, "x", BadProgram(0), NoPlace(), [program], (program,), Kind((0,))]:
            with self.subTest(other=repr(other)[:60]):
                self.assertFalse(program == other)
                self.assertFalse(other == program)
                self.assertTrue(program != other)


if __name__ == "__main__":
    unittest.main()
