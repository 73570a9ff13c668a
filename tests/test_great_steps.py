"""[0.3] and [0.5]: steps of programs that lie deep, and of those that are greater than Program lets through."""

import unittest

from oncekinds.errors import BadProgram, NoStep, NothingDone
from oncekinds.live import Run
from oncekinds.naming import applied, same
from oncekinds.programs import Program, ends, givens, open_names, takes
from oncekinds.stepping import is_way, many_steps, rest, stepped, steps
from tests.low import LowTest
from tests.samples import SHAPES, applied_row, draws, first_unlike, fresh, selves, selves_inside


def nested_takes(many):
    """Return the words of so many takes, each within the body of the one ahead, and each given a self."""
    names = fresh(many)
    words = ("/p", "p")
    for name in reversed(names):
        words = ("@", "/" + name, "@") + words + (name, "/z" + name, "z" + name)
    return words


def turned_round(many):
    """Return the words of a take of many names, which gives them in turn to the first one, given as many programs."""
    names = fresh(many)
    giver = tuple("/" + name for name in names) + ("@",) * (many - 1) + tuple(names)
    given = [("/z" + name, "z" + name) for name in names]
    return applied_row([giver] + given)


class DeepTest(LowTest):

    def rows(self):
        """Go over the words of programs with up to 333 givens that lie one within another, and have steps."""
        yield applied_row(selves(333))
        yield selves_inside(333)
        yield nested_takes(166)
        yield turned_round(165)
        names = fresh(334)
        for shape in SHAPES:
            yield shape(names, set(names[1:]))
            yield shape(names, set(names[::2]))
            yield shape(names, set(names[:333]))

    def test_some_of_them(self):
        self.assertEqual(max(givens(Program(words)) for words in self.rows()), 333)
        self.assertEqual(many_steps(Program(applied_row(selves(333)))), 332)
        self.assertEqual(rest(Program(selves_inside(333))).words, selves(333)[-1])
        self.assertEqual(rest(Program(nested_takes(166))).words, ("/zqa", "zqa"))
        self.assertEqual(many_steps(Program(nested_takes(166))), 332)
        self.assertEqual(many_steps(Program(turned_round(165))), 165 + 164)

    def test_rests_and_ways(self):
        for words in self.rows():
            program = Program(words)
            end = rest(program)
            self.assertEqual(steps(end), ())
            self.assertEqual(many_steps(program), givens(program) - givens(end))
            run = Run(program)
            places = run.to_rest()
            self.assertEqual(run.program(), end)
            self.assertEqual(len(places), many_steps(program))
            self.assertIs(is_way(program, end, places), True)
            self.assertIs(is_way(program, end, places + (0,)), False)
            self.assertIs(is_way(program, end, places[1:]), places == ())

    def test_drawn_orders(self):
        for number, words in enumerate(self.rows()):
            drawn = draws(number)
            program, run = Program(words), Run(Program(words))
            for _ in range(many_steps(program)):
                choice = steps(run.program())
                run.step(choice[next(drawn) % len(choice)])
            self.assertEqual(run.program(), rest(program))
            other = run.copy()
            for _ in range(run.many()):
                run.back()
            self.assertEqual(run.program(), program)
            self.assertEqual(other.program(), rest(program))
            with self.assertRaises(NothingDone):
                run.back()

    def test_what_comes_of_them(self):
        for words in self.rows():
            program = Program(words)
            for place in steps(program)[-1:]:
                after = stepped(program, place)
                self.assertEqual(rest(after), rest(program))
                self.assertEqual(len(after.words), len(words) - 3)
                self.assertEqual(ends(after)[0], len(words) - 3)
            with self.assertRaises(NoStep):
                stepped(program, len(words))


class GreatTest(LowTest):

    def setUp(self):
        super().setUp()
        self.one = Program(applied_row(selves(333)))
        self.other = Program(turned_round(165))

    def test_they_may_be_passed_on(self):
        whole = applied(applied(self.one, self.other), self.one)
        self.assertGreater(len(whole.words), 2900)
        with self.assertRaises(BadProgram):
            Program(whole.words)
        self.assertEqual(open_names(whole), ())
        end = rest(whole)
        self.assertEqual(steps(end), ())
        self.assertTrue(same(end, Program(("/x", "x"))))
        self.assertEqual(many_steps(whole), givens(whole))
        run = Run(whole)
        places = run.to_rest()
        self.assertEqual(len(places), givens(whole))
        self.assertEqual(run.program(), end)
        self.assertIs(is_way(whole, end, places), True)
        self.assertIs(is_way(whole, whole, ()), True)
        other = run.copy()
        for _ in places:
            other.back()
        self.assertIsNone(first_unlike(other.program().words, whole.words))
        self.assertIsNone(first_unlike(stepped(whole, places[0]).words, run_behind(whole, places[:1]).words))
        self.assertEqual(takes(run.program()), 1)


def run_behind(program, places):
    """Return the Program behind the steps at some places."""
    run = Run(program)
    for place in places:
        run.step(place)
    return run.program()


if __name__ == "__main__":
    unittest.main()
