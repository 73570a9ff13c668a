"""[5.1] and [5.2] Programs that are read off their kinds."""

import unittest
from collections import Counter

from oncekinds.errors import KindError, NotClosed
from oncekinds.filling import filled
from oncekinds.kinding import widest
from oncekinds.kinds import Kind, numbered
from oncekinds.naming import standard
from oncekinds.programs import Program, givens, open_names
from oncekinds.reading import fault_of, program_of, sorts, steps_by_kind
from oncekinds.stepping import many_steps, rest, stepped, steps
from tests.kind_trees import even_kinds, kinds_with
from tests.readings import letter_fault, read, words_read
from tests.trees import programs_with

CLOSED = [words for givens in range(3) for words in programs_with(givens)]
GREATER = programs_with(3)[::3]
EVEN = [words for places in (2, 4, 6) for words in even_kinds(places)]
GREAT = 10 ** 39


def told(kind):
    """Return the words of program_of or None, and the fault; just one of both must be None."""
    program, fault = program_of(kind), fault_of(kind)
    assert (program is None) != (fault is None)
    assert fault is None or type(fault) is tuple
    return None if program is None else program.words, fault


class ProgramOfTest(unittest.TestCase):

    def test_some_kinds(self):
        self.assertEqual(told(Kind((">", 0, 0))), (("/a", "a"), None))
        self.assertEqual(told(Kind((">", ">", 0, 1, ">", 0, 1))), (("/a", "/b", "@", "a", "b"), None))
        self.assertEqual(told(Kind((">", 3, ">", ">", 3, 2, 2))), (("/a", "/b", "@", "b", "a"), None))
        self.assertEqual(told(Kind((">", ">", ">", 0, 0, GREAT, GREAT))), (("/a", "@", "a", "/b", "b"), None))
        self.assertEqual(told(Kind((">", ">", ">", 0, 1, 2, ">", ">", 0, 1, 2))),
                         (("/a", "/b", "@", "a", "/c", "@", "b", "c"), None))

    def test_the_widest_kind_is_read_back(self):
        for words in CLOSED + GREATER:
            program = Program(words)
            read_back = program_of(widest(program))
            self.assertEqual(read_back, standard(rest(program)))
            self.assertEqual(standard(read_back), read_back)
            self.assertEqual(open_names(read_back), ())
            self.assertIsNone(fault_of(widest(program)))
            self.assertEqual(widest(read_back), widest(program))

    def test_other_letters_lead_to_the_same_program(self):
        for words in CLOSED + GREATER[::4]:
            program = Program(words)
            kind = widest(program)
            for turned in (lambda letter: GREAT - letter, lambda letter: letter * 7 + 3, lambda letter: letter ^ 1):
                other = filled(kind, {letter: Kind((turned(letter),)) for letter in kind.words if letter != ">"})
                self.assertNotEqual(other.words, kind.words)
                self.assertEqual(program_of(other), standard(rest(program)))
                self.assertIsNone(fault_of(other))
                self.assertEqual(numbered(other), kind)

    def test_all_even_kinds_as_the_document_tells_it(self):
        for words in EVEN + even_kinds(8)[::17]:
            self.assertEqual(told(Kind(words)), (words_read(words), read(words)[1]), words)

    def test_how_many_are_read(self):
        for places, many in ((2, 1), (4, 3), (6, 26)):
            # All kinds in which each letter stands twice, on whatever sides.
            twice = [words for words in kinds_with(places)
                     if {words.count(letter) for letter in range(places // 2)} == {2} and max(
                         word for word in words if word != ">") == places // 2 - 1]
            self.assertLess(set(even_kinds(places)) - {(">", 0, 0)}, set(twice))
            self.assertEqual(len([words for words in twice if program_of(Kind(words)) is not None]), many)
            self.assertEqual(len([words for words in twice if fault_of(Kind(words)) is None]), many)

    def test_the_fifth_fact(self):
        widest_ones = {widest(Program(words)).words for words in CLOSED}
        self.assertEqual(len(widest_ones), 30)
        for places in range(1, 7):
            for words in kinds_with(places):
                self.assertIs(fault_of(Kind(words)) is None, words in widest_ones, words)
                self.assertIs(program_of(Kind(words)) is None, words not in widest_ones, words)


class FaultOfTest(unittest.TestCase):

    def test_some_kinds(self):
        self.assertEqual(fault_of(Kind((">", ">", 0, 1, 1))), ("letter", 0))
        self.assertEqual(fault_of(Kind((">", ">", 0, 0, ">", 1, 1))), ("left", 1))
        self.assertEqual(fault_of(Kind((">", ">", ">", 0, 1, 2, ">", ">", 0, 3, ">", ">", 2, 1, 3))), ("stops", 8))

    def test_the_least_letter(self):
        self.assertEqual(fault_of(Kind((0,))), ("letter", 0))
        self.assertEqual(fault_of(Kind((GREAT,))), ("letter", GREAT))
        self.assertEqual(fault_of(Kind((">", 5, ">", 3, ">", 4, 4))), ("letter", 3))
        self.assertEqual(fault_of(Kind((">", 5, ">", 5, ">", 5, ">", 7, 2))), ("letter", 2))
        self.assertEqual(fault_of(Kind((">", ">", 1, 1, ">", 9, 1))), ("letter", 1))
        self.assertEqual(fault_of(Kind((">", ">", 9, 9, ">", ">", 9, 9, ">", 1, 1))), ("letter", 9))

    def test_the_sides(self):
        self.assertEqual(fault_of(Kind((">", 0, ">", 0, ">", ">", 1, ">", 1, 2, 2))), ("side", 0))
        self.assertEqual(fault_of(Kind((">", ">", 4, 3, ">", 3, 4))), ("side", 3))
        self.assertEqual(fault_of(Kind((">", ">", ">", 6, 1, 6, 1))), ("side", 1))

    def test_letters_come_ahead_of_sides_and_these_of_the_reading(self):
        # The letter 0 stands on one side twice, and 1 stands once.
        self.assertEqual(fault_of(Kind((">", ">", 0, 2, ">", ">", 0, 1, 2)))[0], "letter")
        self.assertEqual(fault_of(Kind((">", 0, ">", 0, 1))), ("letter", 1))
        # What is wanted first, 5, is at hand nowhere, and 4 stands on one side twice.
        self.assertEqual(fault_of(Kind((">", ">", ">", 5, 3, 3, ">", 4, ">", 4, 5)))[0], "side")

    def test_what_comes_first_in_the_reading(self):
        kinds = {"left": 0, "stops": 0, None: 0}
        for words in EVEN + even_kinds(8)[::5]:
            part, fault = read(words)
            kinds[fault[0] if fault else None] += 1
            self.assertEqual(fault_of(Kind(words)), fault, words)
        self.assertGreater(min(kinds.values()), 25)

    def test_all_small_kinds(self):
        kinds = Counter()
        for places in range(1, 7):
            for words in kinds_with(places):
                fault = letter_fault(words) or read(words)[1]
                self.assertEqual(fault_of(Kind(words)), fault, words)
                kinds[fault and fault[0]] += 1
        self.assertGreater(min(kinds.values()), 10)
        self.assertEqual(set(kinds), {"letter", "side", "stops", "left", None})

    def test_letters_told_otherwise(self):
        for words in EVEN[::3]:
            other = tuple(word if word == ">" else GREAT - word for word in words)
            self.assertEqual(fault_of(Kind(other)), read(words)[1])

    def test_the_first_name_that_is_left(self):
        # Both a and b are left at the end; the first of them is told.
        self.assertEqual(fault_of(Kind((">", ">", 0, 0, ">", ">", 1, 1, ">", 2, 2))), ("left", 1))
        # What takes a name of the kind a > a, within what is given, ends ahead of the whole.
        self.assertEqual(fault_of(Kind((">", ">", ">", ">", 0, 0, ">", 1, 1, 2, 2))), ("left", 3))

    def test_kinds_stay(self):
        for words in EVEN[::7]:
            kind = Kind(words)
            self.assertEqual((told(kind), told(kind)), (told(Kind(words)), told(Kind(words))))
            self.assertEqual(kind.words, words)


class SortsTest(unittest.TestCase):

    def test_some_programs(self):
        self.assertEqual(sorts(Program(("/x", "x"))), (0, 2))
        self.assertEqual(sorts(Program(("@", "/x", "x", "/y", "y"))), (0, 2))
        self.assertEqual(sorts(Program(("/f", "/x", "@", "f", "x"))), (1, 4))
        self.assertIs(type(sorts(Program(("/x", "x")))), tuple)
        self.assertEqual(steps_by_kind(Program(("/x", "x"))), 0)
        self.assertEqual(steps_by_kind(Program(("@", "/x", "x", "/y", "y"))), 1)

    def test_by_steps(self):
        for words in CLOSED + GREATER:
            program = Program(words)
            many = givens(rest(program))
            self.assertEqual(sorts(program), (many, 2 * (many + 1)))
            self.assertEqual(steps_by_kind(program), many_steps(program))
            for place in steps(program):
                self.assertEqual(sorts(stepped(program, place)), sorts(program))
                self.assertEqual(steps_by_kind(stepped(program, place)), steps_by_kind(program) - 1)

    def test_not_closed(self):
        for words in (("x",), ("@", "x", "y"), ("/x", "@", "x", "y"), ("@", "/x", "x", "y")):
            for function in (sorts, steps_by_kind):
                with self.assertRaises(NotClosed) as caught:
                    function(Program(words))
                self.assertIsInstance(caught.exception, KindError)


if __name__ == "__main__":
    unittest.main()
