"""[1.2] What stands at the places of a program."""

import unittest

from oncekinds.errors import NoPlace
from oncekinds.programs import Program, ends, givens, open_names, part, taken_at, takes
from tests.samples import things
from tests.trees import names_in, right_words, tree_of

SMALL = right_words(("@", "/x", "/y", "x", "y", "z"), 6)


def take_of(words, place):
    """Return the place of the take of the name at a place, or None."""
    if words[place] == "@" or words[place].startswith("/"):
        return None
    wanted = [at for at, word in enumerate(words) if word == "/" + words[place]]
    return wanted[0] if wanted else None


class PlacesTest(unittest.TestCase):

    def test_some_of_the_programs(self):
        self.assertGreater(len(SMALL), 100)
        self.assertIn(("@", "/x", "x", "/y", "y"), SMALL)

    def test_open_names(self):
        self.assertEqual(open_names(Program(("x",))), ("x",))
        self.assertEqual(open_names(Program(("/x", "x"))), ())
        self.assertEqual(open_names(Program(("@", "@", "z", "a", "/x", "@", "m", "x"))), ("z", "a", "m"))
        self.assertIs(type(open_names(Program(("x",)))), tuple)
        for words in SMALL:
            standing = names_in(tree_of(words)[0])
            self.assertEqual(open_names(Program(words)), tuple(n for n in standing if "/" + n not in words))

    def test_givens_and_takes(self):
        program = Program(("/f", "/x", "@", "@", "f", "x", "y"))
        self.assertEqual((givens(program), takes(program)), (2, 2))
        self.assertEqual((givens(Program(("x",))), takes(Program(("x",)))), (0, 0))
        for words in SMALL:
            program = Program(words)
            self.assertEqual(givens(program), len([word for word in words if word == "@"]))
            self.assertEqual(takes(program), len([word for word in words if word[0] == "/"]))

    def test_a_closed_program_has_one_take_more_than_givens(self):
        for words in SMALL:
            program = Program(words)
            self.assertEqual(takes(program) + len(open_names(program)), givens(program) + 1)
            if open_names(program) == ():
                self.assertEqual(takes(program), givens(program) + 1)

    def test_ends(self):
        self.assertEqual(ends(Program(("/f", "/x", "@", "f", "x"))), (5, 5, 5, 4, 5))
        self.assertEqual(ends(Program(("@", "/x", "x", "/y", "y"))), (5, 3, 3, 5, 5))
        self.assertEqual(ends(Program(("@", "@", "a", "b", "@", "c", "d"))), (7, 4, 3, 4, 7, 6, 7))
        for words in SMALL:
            self.assertEqual(ends(Program(words)), tuple(tree_of(words, at)[1] for at in range(len(words))))

    def test_part(self):
        program = Program(("@", "/x", "x", "/y", "y"))
        self.assertEqual(part(program, 0), program)
        self.assertEqual(part(program, 1), Program(("/x", "x")))
        self.assertEqual(part(program, 2), Program(("x",)))
        self.assertEqual(part(program, 3).words, ("/y", "y"))
        for words in SMALL:
            for at in range(len(words)):
                self.assertEqual(part(Program(words), at), Program(words[at:tree_of(words, at)[1]]))

    def test_taken_at(self):
        program = Program(("/f", "/x", "@", "@", "x", "y", "f"))
        self.assertEqual([taken_at(program, at) for at in range(7)], [None, None, None, None, 1, None, 0])
        for words in SMALL:
            for at in range(len(words)):
                self.assertEqual(taken_at(Program(words), at), take_of(words, at))

    def test_open_names_and_other_words_are_not_taken(self):
        self.assertIsNone(taken_at(Program(("x",)), 0))
        self.assertIsNone(taken_at(Program(("@", "x", "y")), 0))
        self.assertIsNone(taken_at(Program(("/x", "x")), 0))

    def test_no_place(self):
        for program in (Program(("x",)), Program(("@", "/x", "x", "/y", "y"))):
            many = len(program.words)
            wrong = [thing for thing in things() if isinstance(thing, bool) or not isinstance(thing, int)]
            for place in [-1, many, many + 1, -many, 10 ** 39, -10 ** 39, "0", "x", [0], (0,), {0: 0}, None] + wrong:
                with self.subTest(many=many, place=repr(place)[:60]):
                    with self.assertRaises(NoPlace):
                        part(program, place)
                    with self.assertRaises(NoPlace):
                        taken_at(program, place)

    def test_nothing_is_changed_and_answers_are_equal(self):
        words = ("/f", "/x", "@", "@", "x", "y", "f")
        program = Program(words)
        for ask in (open_names, givens, takes, ends):
            self.assertEqual(ask(program), ask(program))
        for at in range(7):
            self.assertEqual(part(program, at), part(program, at))
            self.assertEqual(taken_at(program, at), taken_at(program, at))
        self.assertEqual(program.words, words)


if __name__ == "__main__":
    unittest.main()
