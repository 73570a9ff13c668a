"""[2.2] Runs, that do steps and take them back."""

import unittest

from oncekinds.errors import KindError, NoStep, NothingDone
from oncekinds.live import Run
from oncekinds.programs import Program
from oncekinds.stepping import many_steps, rest, stepped, steps
from tests.samples import applied_row, draws, selves, selves_inside, things
from tests.trees import programs_with, reduced, tree_of, words_of

SMALL = [words for names in ((), ("p",)) for givens in range(4)
         for words in programs_with(givens, names)[::5 ** (givens // 3)]]
ODD = ("@", "/zz", "@", "@", "/q", "/b", "@", "b", "q", "abcdefgh", "zz", "/a", "a")
LONG = [applied_row(selves(30)), selves_inside(30), applied_row([("/f", "/g", "@", "g", "f")] + selves(20)[2:])]


def least_ones(program):
    """Return the places of the least steps to the rest, and the programs that are come to."""
    places, row = [], [program]
    while steps(row[-1]):
        places.append(steps(row[-1])[0])
        row.append(stepped(row[-1], places[-1]))
    return tuple(places), row


class RunTest(unittest.TestCase):

    def told(self, run):
        """Return what a run tells without doing anything."""
        self.assertIsInstance(run.program(), Program)
        self.assertIs(type(run.many()), int)
        return run.program().words, run.many()

    def test_at_first(self):
        for words in SMALL:
            self.assertEqual(self.told(Run(Program(words))), (words, 0))

    def test_step_and_back(self):
        run = Run(Program(ODD))
        self.assertIsNone(run.step(3))
        self.assertEqual(self.told(run), (("@", "/zz", "@", "/b", "@", "b", "abcdefgh", "zz", "/a", "a"), 1))
        self.assertIsNone(run.step(2))
        self.assertEqual(self.told(run), (("@", "/zz", "@", "zz", "abcdefgh", "/a", "a"), 2))
        self.assertIsNone(run.back())
        self.assertEqual(self.told(run), (("@", "/zz", "@", "/b", "@", "b", "abcdefgh", "zz", "/a", "a"), 1))
        run.step(0)
        self.assertEqual(self.told(run), (("@", "/b", "@", "b", "abcdefgh", "/a", "a"), 2))
        run.back()
        run.back()
        self.assertEqual(self.told(run), (ODD, 0))

    def test_each_step_is_taken_back(self):
        for words in SMALL:
            program = Program(words)
            for place in steps(program):
                run = Run(program)
                run.step(place)
                self.assertEqual(self.told(run), (stepped(program, place).words, 1))
                run.back()
                self.assertEqual(self.told(run), (words, 0))

    def test_drawn_steps_forth_and_back(self):
        for words in SMALL[::3] + LONG:
            drawn = draws(len(words))
            run, row = Run(Program(words)), [Program(words)]
            for _ in range(4 * many_steps(Program(words))):
                choice = steps(row[-1])
                if choice and next(drawn) % 3:
                    place = choice[next(drawn) % len(choice)]
                    run.step(place)
                    row.append(stepped(row[-1], place))
                elif len(row) > 1:
                    run.back()
                    row.pop()
                self.assertEqual(self.told(run), (row[-1].words, len(row) - 1))

    def test_no_step(self):
        run = Run(Program(("/a", "@", "/x", "x", "@", "/y", "y", "a")))
        run.step(4)
        for _ in range(2):
            before = self.told(run)
            for thing in things() + [-1, -7, 0, 2, 3, 4, 5, 6, 7, 10 ** 39, "1", (1,)]:
                if isinstance(thing, bool) or not isinstance(thing, int) or thing not in steps(run.program()):
                    with self.subTest(thing=repr(thing)[:60]):
                        with self.assertRaises(NoStep) as caught:
                            run.step(thing)
                        self.assertIsInstance(caught.exception, KindError)
                        self.assertEqual(self.told(run), before)
            if steps(run.program()):
                run.step(1)
        run.back()
        run.back()
        self.assertEqual(self.told(run)[0], ("/a", "@", "/x", "x", "@", "/y", "y", "a"))

    def test_nothing_done(self):
        for words in SMALL[::4]:
            run = Run(Program(words))
            with self.assertRaises(NothingDone) as caught:
                run.back()
            self.assertIsInstance(caught.exception, KindError)
            for _ in run.to_rest():
                run.back()
            with self.assertRaises(NothingDone):
                run.back()
            self.assertEqual(self.told(run), (words, 0))
            self.assertEqual(run.to_rest(), least_ones(Program(words))[0])

    def test_to_rest(self):
        for words in SMALL + LONG + [ODD]:
            program = Program(words)
            places, row = least_ones(program)
            run = Run(program)
            told = run.to_rest()
            self.assertIs(type(told), tuple)
            self.assertEqual(told, places)
            self.assertEqual(self.told(run), (rest(program).words, many_steps(program)))
            self.assertEqual(run.program().words, words_of(reduced(tree_of(words)[0])))
            self.assertEqual(run.to_rest(), ())
            self.assertEqual(run.many(), len(places))
            for before in reversed(row[:-1]):
                run.back()
                self.assertEqual(run.program(), before)

    def test_to_rest_from_between(self):
        words = ("@", "@", "/f", "/g", "@", "f", "g", "/x", "x", "@", "/y", "y", "p")
        program = Program(words)
        run = Run(program)
        run.step(9)
        run.step(1)
        between = run.program()
        self.assertEqual(run.to_rest(), least_ones(between)[0])
        self.assertEqual(run.many(), 4)
        run.back()
        run.back()
        self.assertEqual(run.program(), between)

    def test_a_step_further_ahead(self):
        # Behind each step a take comes to stand behind the "@" ahead of it.
        words = ("@", "@", "@", "/a", "/b", "/c", "@", "@", "a", "b", "c", "p", "q", "r")
        self.assertEqual(Run(Program(words)).to_rest(), (2, 1, 0))

    def test_copies_go_on_apart(self):
        for words in SMALL[::5] + LONG:
            program = Program(words)
            places, row = least_ones(program)
            for many in range(len(places)):
                run = Run(program)
                for place in places[:many]:
                    run.step(place)
                other = run.copy()
                self.assertIs(type(other), Run)
                self.assertEqual(self.told(other), (row[many].words, many))
                self.assertEqual(other.to_rest(), places[many:])
                self.assertEqual(self.told(run), (row[many].words, many))
                run.step(places[many])
                self.assertEqual(self.told(run), (row[many + 1].words, many + 1))
                self.assertEqual(self.told(other), (row[-1].words, len(places)))
                for before in reversed(row[:-1]):
                    other.back()
                    self.assertEqual(other.program(), before)
                self.assertEqual(self.told(run), (row[many + 1].words, many + 1))

    def test_a_copy_goes_back_as_far(self):
        run = Run(Program(ODD))
        run.to_rest()
        other = run.copy()
        for _ in range(4):
            run.back()
        self.assertEqual(self.told(other), (("abcdefgh",), 4))
        last = other.copy()
        for _ in range(4):
            other.back()
        self.assertEqual(self.told(other), (ODD, 0))
        with self.assertRaises(NothingDone):
            other.back()
        self.assertEqual(self.told(last), (("abcdefgh",), 4))

    def test_the_program_stays(self):
        program = Program(ODD)
        run = Run(program)
        told = run.program()
        run.to_rest()
        self.assertEqual((program.words, told.words), (ODD, ODD))
        self.assertEqual(Run(program).many(), 0)

    def test_a_run_equals_no_program(self):
        program = Program(("x",))
        self.assertFalse(Run(program) == program)
        self.assertFalse(program == Run(program))


if __name__ == "__main__":
    unittest.main()
