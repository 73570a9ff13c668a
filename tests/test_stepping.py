"""[2.1] Steps, the rest that they lead to, and the ways there."""

import unittest

from oncekinds.errors import KindError, NoStep
from oncekinds.programs import Program, givens
from oncekinds.stepping import is_way, many_steps, rest, stepped, steps
from tests.samples import applied_row, draws, selves, selves_inside, things
from tests.trees import all_steps, programs_with, reduced, right_words, tree_of, words_of

SMALL = right_words(("@", "/x", "/y", "x", "y", "z"), 6) + [
    words for names in ((), ("p",), ("p", "q")) for givens_ in range(3) for words in programs_with(givens_, names)]
GREATER = programs_with(3) + programs_with(3, ("p",))[::7]

# Steps that lie one within another, with names in no order and an open one.
ODD = ("@", "/zz", "@", "@", "/q", "/b", "@", "b", "q", "abcdefgh", "zz", "/a", "a")


def ways(words):
    """Return the set of the pairs (places, words behind them) of all ways that end without steps."""
    found = set()
    for place, after in all_steps(words):
        found |= {((place,) + places, end) for places, end in ways(after)}
    return found or {((), words)}


def led(program, drawn):
    """Return the places of drawn steps to the end, and the program there."""
    places = []
    while steps(program):
        choice = steps(program)
        places.append(choice[next(drawn) % len(choice)])
        program = stepped(program, places[-1])
    return tuple(places), program


class StepsTest(unittest.TestCase):

    def test_some_programs(self):
        self.assertEqual(steps(Program(("x",))), ())
        self.assertEqual(steps(Program(("/x", "x"))), ())
        self.assertEqual(steps(Program(("@", "/x", "x", "/y", "y"))), (0,))
        self.assertEqual(steps(Program(("@", "x", "/y", "y"))), ())
        self.assertEqual(steps(Program(("@", "@", "/x", "x", "/y", "y", "z"))), (1,))
        self.assertEqual(steps(Program(ODD)), (0, 3))
        self.assertIs(type(steps(Program(("x",)))), tuple)

    def test_all_small_programs(self):
        for words in SMALL:
            self.assertEqual(steps(Program(words)), tuple(place for place, _ in all_steps(words)), words)


class SteppedTest(unittest.TestCase):

    def test_some_programs(self):
        self.assertEqual(stepped(Program(("@", "/x", "x", "/y", "y")), 0).words, ("/y", "y"))
        self.assertEqual(stepped(Program(("@", "@", "/x", "x", "/y", "y", "z")), 1).words, ("@", "/y", "y", "z"))
        self.assertEqual(stepped(Program(("@", "/x", "/y", "@", "y", "x", "z")), 0).words, ("/y", "@", "y", "z"))
        self.assertEqual(stepped(Program(("/a", "@", "/b", "@", "b", "c", "@", "a", "d")), 1).words,
                         ("/a", "@", "@", "a", "d", "c"))

    def test_no_name_is_told_anew(self):
        self.assertEqual(stepped(Program(ODD), 0).words, ("@", "@", "/q", "/b", "@", "b", "q", "abcdefgh", "/a", "a"))
        self.assertEqual(stepped(Program(ODD), 3).words, ("@", "/zz", "@", "/b", "@", "b", "abcdefgh", "zz", "/a", "a"))
        # Names that begin alike, and names that were told in no order.
        program = Program(("@", "/aaa", "@", "/a", "@", "aaa", "a", "aa", "/aaaa", "aaaa"))
        self.assertEqual(stepped(program, 0).words, ("@", "/a", "@", "/aaaa", "aaaa", "a", "aa"))
        self.assertEqual(stepped(program, 2).words, ("@", "/aaa", "@", "aaa", "aa", "/aaaa", "aaaa"))

    def test_all_small_programs(self):
        for words in SMALL:
            for place, after in all_steps(words):
                self.assertEqual(stepped(Program(words), place).words, after, (words, place))

    def test_no_step_is_at_any_other_place(self):
        for words in SMALL[::7] + [ODD]:
            program = Program(words)
            right = [place for place, _ in all_steps(words)]
            for place in range(-2, len(words) + 3):
                if place not in right:
                    with self.assertRaises(NoStep):
                        stepped(program, place)
            self.assertEqual(program.words, words)

    def test_what_is_no_place(self):
        # There are steps at 0 and at 1, so True and False must not pass for numbers.
        program = Program(("@", "/x", "x", "/y", "y"))
        within = Program(("/a", "@", "/x", "x", "@", "/y", "y", "a"))
        self.assertEqual((steps(program), steps(within)), ((0,), (1, 4)))
        for thing in things() + ["0", (0,), [0], {0: 0}, 10 ** 40 - 1]:
            for given in (program, within):
                if isinstance(thing, bool) or not isinstance(thing, int) or thing not in steps(given):
                    with self.subTest(thing=repr(thing)[:60]):
                        with self.assertRaises(NoStep) as caught:
                            stepped(given, thing)
                        self.assertIsInstance(caught.exception, KindError)

    def test_what_was_stepped_stays(self):
        program = Program(ODD)
        one = stepped(program, 0)
        self.assertEqual(stepped(program, 0), one)
        self.assertEqual(program.words, ODD)
        self.assertEqual(stepped(program, 3), stepped(Program(ODD), 3))


class RestTest(unittest.TestCase):

    def test_some_programs(self):
        self.assertEqual(rest(Program(("@", "/x", "x", "/y", "y"))).words, ("/y", "y"))
        self.assertEqual(rest(Program(("x",))).words, ("x",))
        self.assertEqual(rest(Program(ODD)).words, ("abcdefgh",))
        self.assertEqual(rest(Program(("@", "@", "/a", "/b", "@", "b", "a", "p", "q"))).words, ("@", "q", "p"))
        # A take that was given to a name, and a step that another one leads to.
        program = Program(("@", "/f", "@", "f", "p", "/x", "@", "x", "/y", "y"))
        self.assertEqual(rest(program).words, ("@", "p", "/y", "y"))
        self.assertEqual(many_steps(program), 2)

    def test_many_steps_of_some_programs(self):
        self.assertEqual(many_steps(Program(("x",))), 0)
        self.assertEqual(many_steps(Program(("@", "/x", "x", "/y", "y"))), 1)
        self.assertEqual(many_steps(Program(ODD)), 4)
        self.assertEqual(many_steps(Program(applied_row(selves(20)))), 19)
        self.assertEqual(many_steps(Program(selves_inside(20))), 19)

    def test_the_rest_by_trees(self):
        for words in SMALL + GREATER:
            self.assertEqual(rest(Program(words)).words, words_of(reduced(tree_of(words)[0])), words)

    def test_the_first_fact_for_all_ways(self):
        for words in SMALL + GREATER:
            program = Program(words)
            for places, end in ways(words):
                self.assertEqual(rest(program).words, end)
                self.assertEqual(many_steps(program), len(places))
            self.assertEqual(many_steps(program), givens(program) - givens(rest(program)))
            self.assertEqual(steps(rest(program)), ())

    def test_orders_of_long_rows(self):
        rows = [applied_row(selves(30)), selves_inside(30), applied_row([("/f", "/g", "@", "g", "f")] + selves(20)[2:]),
                ("@",) + applied_row([("/f", "/g", "@", "g", "f"), ("/n", "/o", "@", "n", "o")]) + ("p",)]
        for words in rows:
            program = Program(words)
            for drawn in (iter([0] * 100), iter([-1] * 100), draws(1), draws(2), draws(3)):
                places, end = led(program, drawn)
                self.assertEqual(end, rest(program))
                self.assertEqual(len(places), many_steps(program))
                self.assertIs(is_way(program, end, places), True)

    def test_behind_a_step_there_is_one_less(self):
        for words in SMALL + GREATER:
            program = Program(words)
            for place in steps(program):
                after = stepped(program, place)
                self.assertEqual(many_steps(after), many_steps(program) - 1)
                self.assertEqual(rest(after), rest(program))
            self.assertEqual(rest(rest(program)), rest(program))
            self.assertEqual(many_steps(rest(program)), 0)


class WayTest(unittest.TestCase):

    def setUp(self):
        self.program = Program(ODD)
        self.places, self.end = led(self.program, draws(4))

    def judged(self, thing, other=None):
        """Return what is_way says of a thing; it must be a flag."""
        told = is_way(self.program, self.end if other is None else other, thing)
        self.assertIs(type(told), bool)
        return told

    def test_the_empty_tuple(self):
        for words in SMALL[::9]:
            for others in SMALL[::31] + [words]:
                self.assertIs(is_way(Program(words), Program(others), ()), words == others)

    def test_all_ways(self):
        for words in SMALL[::3] + GREATER[::4]:
            program = Program(words)
            for places, end in ways(words):
                self.assertIs(is_way(program, Program(end), places), True)
                for many in range(len(places)):
                    self.assertIs(is_way(program, Program(end), places[:many]), False)
                    self.assertIs(is_way(program, Program(words), places[many:]), False)

    def test_all_rows_of_places(self):
        program = Program(("@", "/f", "@", "f", "/p", "p", "/x", "@", "x", "/y", "y"))
        right = {places: end for places, end in ways(program.words)}
        many = len(program.words)
        rows = [(a, b, c) for a in range(-1, many) for b in range(-1, many) for c in range(-1, many)]
        self.assertEqual(many_steps(program), 3)
        for row in rows:
            self.assertIs(is_way(program, rest(program), row), row in right, row)

    def test_other_names_are_another_program(self):
        program = Program(("@", "/x", "x", "/y", "y"))
        self.assertIs(is_way(program, Program(("/y", "y")), (0,)), True)
        self.assertIs(is_way(program, Program(("/x", "x")), (0,)), False)
        self.assertIs(is_way(program, program, (0,)), False)
        self.assertIs(is_way(program, Program(("/y", "y")), ()), False)

    def test_a_part_of_the_way(self):
        self.assertTrue(self.judged(self.places))
        middle = stepped(self.program, self.places[0])
        self.assertTrue(self.judged(self.places[:1], middle))
        self.assertFalse(self.judged(self.places, middle))
        self.assertFalse(self.judged(self.places[:-1]))

    def test_one_place_changed(self):
        for at, place in enumerate(self.places):
            ahead, behind = self.places[:at], self.places[at + 1:]
            self.assertFalse(self.judged(ahead + behind))
            self.assertFalse(self.judged(ahead + (place, place) + behind))
            for other in (-1, place - len(ODD), len(ODD), len(ODD) + 1, 10 ** 39, None, str(place), (place,), [place]):
                self.assertFalse(self.judged(ahead + (other,) + behind))
        self.assertFalse(self.judged(self.places + (0,)))

    def test_flags_are_no_places(self):
        program = Program(("@", "/x", "x", "/y", "y"))
        within = Program(("/a", "@", "/x", "x", "a"))
        self.assertIs(is_way(program, rest(program), (0,)), True)
        self.assertIs(is_way(program, rest(program), (False,)), False)
        self.assertIs(is_way(within, rest(within), (1,)), True)
        self.assertIs(is_way(within, rest(within), (True,)), False)

    def test_any_object_is_judged(self):
        self.assertFalse(self.judged(list(self.places)))
        self.assertFalse(self.judged([]))
        self.assertIs(is_way(self.end, self.end, []), False)
        for thing in things():
            with self.subTest(thing=repr(thing)[:60]):
                self.assertFalse(self.judged(thing))
                self.assertFalse(self.judged((thing,)))
                self.assertFalse(self.judged(self.places + (thing,)))
                self.assertIs(is_way(self.end, self.end, thing), thing == () and isinstance(thing, tuple))


if __name__ == "__main__":
    unittest.main()
