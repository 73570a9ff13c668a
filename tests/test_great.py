"""[0.3] and [0.5]: programs that lie deep, and those that are greater than Program lets through."""

import unittest

from oncekinds.errors import BadProgram, NoPlace
from oncekinds.naming import applied, put_in, renamed, same, standard
from oncekinds.programs import Program, ends, givens, open_names, part, taken_at, takes
from tests.low import LowTest
from tests.samples import SHAPES, first_unlike, fresh, leftward, letterings


def ends_by_counting(words):
    """Return the ends of all parts, each one counted up to by itself."""
    found = []
    for at in range(len(words)):
        needed, end = 1, at
        while needed:
            needed += {"@": 1, "/": 0}.get(words[end][0], -1)
            end += 1
        found.append(end)
    return tuple(found)


class DeepTest(LowTest):

    def deep_rows(self):
        """Go over the words of programs with 333 givens, in all shapes, with no, many and most names taken."""
        names = fresh(334)
        for shape in SHAPES:
            for taken in ([], names[:333], names[1:], names[::2]):
                yield names, taken, shape(names, set(taken))

    def test_places(self):
        for names, taken, words in self.deep_rows():
            program = Program(words)
            self.assertIsNone(first_unlike(program.words, words))
            self.assertTrue(program == Program(tuple(list(words))))
            self.assertEqual(givens(program), 333)
            self.assertEqual(takes(program), len(taken))
            self.assertIsNone(first_unlike(sorted(open_names(program)), sorted(set(names) - set(taken))))
            self.assertIsNone(first_unlike(ends(program), ends_by_counting(words)))

    def test_parts_and_takes(self):
        for names, taken, words in self.deep_rows():
            program = Program(words)
            behind = ends_by_counting(words)
            for at in range(0, len(words), 7):
                self.assertIsNone(first_unlike(part(program, at).words, words[at:behind[at]]))
            for name in taken[::7]:
                self.assertEqual(taken_at(program, words.index(name)), words.index("/" + name))
            for place in (-1, len(words)):
                with self.assertRaises(NoPlace):
                    part(program, place)

    def test_naming(self):
        for names, taken, words in self.deep_rows():
            program = Program(words)
            turned = dict(zip(names, names[1:] + names[:1]))
            told = renamed(program, turned)
            self.assertIsNone(first_unlike(told.words, tuple(
                word if word == "@" else "/" + turned[word[1:]] if word[0] == "/" else turned[word] for word in words)))
            self.assertIsNone(first_unlike([word[1:] for word in standard(program).words if word[0] == "/"],
                                           letterings(len(taken))))
            # Some name is open, so it isn't the same by another name.
            self.assertFalse(same(program, told))
            self.assertTrue(same(program, standard(program)))

    def test_put_together(self):
        small = Program(("/x", "x"))
        for names, taken, words in self.deep_rows():
            program = Program(words)
            self.assertTrue(same(part(applied(small, program), 3), program))
            self.assertTrue(same(part(applied(program, small), 1), program))
            name = open_names(program)[-1]
            place = words.index(name)
            self.assertTrue(same(part(put_in(program, name, small), place), small))
            self.assertTrue(same(put_in(Program(("x",)), "x", program), program))

    def test_closed_programs(self):
        names = fresh(333)
        for shape in SHAPES:
            program = Program(shape(names, set(names)))
            self.assertEqual(len(program.words), 3 * 332 + 2)
            self.assertEqual(open_names(program), ())
            self.assertEqual(takes(program), givens(program) + 1)
            self.assertEqual(takes(standard(program)), 333)

    def test_faults_that_lie_deep(self):
        names = fresh(334)
        for shape in SHAPES:
            words = shape(names, set(names[:333]))
            last = words.index(names[333])
            for wrong, index in ((None, last), ("@", 1000)):
                with self.assertRaises(BadProgram) as caught:
                    Program(words[:last] + (wrong,) + words[last + 1:])
                self.assertEqual(caught.exception.index, index)

    def test_takes_alone(self):
        names = fresh(333)
        words = tuple("/" + name for name in names) + leftward(names, ())
        program = Program(words)
        self.assertIsNone(first_unlike([taken_at(program, 333 + 332 + at) for at in range(333)], list(range(333))))
        self.assertIsNone(first_unlike(ends(program)[:334], (998,) * 334))


class GreatTest(unittest.TestCase):

    def setUp(self):
        self.names = fresh(334)
        self.one = Program(leftward(self.names, set(self.names[1:])))
        self.other = Program(tuple("/" + name for name in self.names[:333]) + leftward(self.names[:333], ()))

    def test_what_was_returned_may_be_greater(self):
        whole = applied(self.one, self.other)
        self.assertEqual(len(whole.words), 1 + 1000 + 998)
        self.assertEqual(givens(whole), 1 + 333 + 332)
        self.assertEqual(takes(whole), 333 + 333)
        self.assertEqual(open_names(whole), (self.names[0],))
        self.assertIsNone(first_unlike(ends(whole), ends_by_counting(whole.words)))
        self.assertTrue(same(part(whole, 1), self.one))
        self.assertTrue(same(part(whole, 1001), self.other))
        self.assertEqual(part(whole, 0), whole)
        self.assertEqual(standard(whole), whole)
        self.assertEqual(taken_at(whole, 1998), 1333)
        self.assertIsNone(taken_at(whole, 0))
        with self.assertRaises(NoPlace):
            part(whole, 1999)

    def test_it_may_be_passed_on(self):
        whole = applied(self.one, self.other)
        again = put_in(whole, self.names[0], whole)
        self.assertEqual(len(again.words), 1999 + 1998)
        self.assertEqual(takes(again), 4 * 333)
        more = applied(again, applied(self.other, self.other))
        self.assertEqual(len(more.words), 1 + 3997 + 1997)
        self.assertIsNone(first_unlike(ends(more), ends_by_counting(more.words)))
        self.assertIsNone(first_unlike([word[1:] for word in more.words if word[0] == "/"],
                                       [name for name in letterings(6 * 333 + 1) if name != self.names[0]]))
        names = {word: word + "z" for word in more.words if word != "@" and word[0] != "/"}
        self.assertEqual(standard(renamed(renamed(more, names), {new: old for old, new in names.items()})), more)
        self.assertEqual(len(part(more, 1).words), 3997)

    def test_words_that_are_passed_are_bounded_all_the_same(self):
        with self.assertRaises(BadProgram) as caught:
            Program(applied(self.one, self.other).words)
        self.assertEqual(caught.exception.index, -1)

    def test_equal_calls_give_equal_answers(self):
        whole = applied(self.one, self.other)
        self.assertEqual(applied(self.one, self.other), whole)
        self.assertEqual(put_in(whole, self.names[0], self.other), put_in(whole, self.names[0], self.other))
        self.assertEqual(len(self.one.words), 1000)
        self.assertEqual(len(self.other.words), 998)


if __name__ == "__main__":
    unittest.main()
