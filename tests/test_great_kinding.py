"""[0.3] and [0.5]: kinds of programs that lie deep or are great, and programs of such kinds."""

import unittest

from oncekinds.errors import TooMany
from oncekinds.filling import filled, given_kind
from oncekinds.kinding import fits, is_kinding, kinding, widest
from oncekinds.kinds import Kind, is_even, numbered
from oncekinds.likeness import alike, callers_alike, callers_kind, parting
from oncekinds.naming import applied, same, standard
from oncekinds.programs import Program, givens
from oncekinds.reading import fault_of, program_of, sorts, steps_by_kind
from oncekinds.stepping import many_steps, rest, stepped, steps
from tests.kind_shapes import lefts, rights
from tests.low import LowTest
from tests.samples import SHAPES, applied_row, first_unlike, fresh, letterings, selves, selves_inside

PAIRS = [letter for letter in range(1000) for _ in range(2)]


def within(many):
    """Return the words of a take whose name is given such a take, and so on; the kind lies as deep in lefts."""
    names = letterings(many)
    return tuple(word for name in names[:-1] for word in ("/" + name, "@", name)) + ("/" + names[-1], names[-1])


def giver(many):
    """Return the words of a take of so many names, which gives the others to the first one, one behind another."""
    names = letterings(many)
    return tuple("/" + name for name in names) + ("@",) * (many - 1) + tuple(names)


def closed_rows():
    """Return the words of closed programs with about 333 givens that lie one within another."""
    names = fresh(333)
    rows = [shape(names, set(names)) for shape in SHAPES]
    return rows + [applied_row(selves(333)), selves_inside(333), within(333), giver(333)]


class DeepProgramTest(LowTest):

    def test_kindings(self):
        names = fresh(334)
        rows = [shape(names[:100], set(names[:100:step])) for shape in SHAPES for step in (1, 2)]
        rows += [shape(names[:300], set(names[:3])) for shape in SHAPES]
        for words in rows + [selves_inside(333), giver(100), within(100)]:
            program = Program(words)
            told = kinding(program)
            self.assertIs(is_kinding(program, told), True)
            self.assertEqual(numbered(told[0]), widest(program))
            for at in range(0, len(told), 50):
                changed = told[:at] + (Kind((">", 10 ** 9, 0)),) + told[at + 1:]
                self.assertIs(is_kinding(program, changed), False)

    def test_just_too_many(self):
        # 158 of them within one another have 100013 words in all kinds.
        told = kinding(Program(within(157)))
        self.assertEqual(sum(len(kind.words) for kind in told), 4 * 157 ** 2 + 157 - 1)
        for many in (158, 333):
            with self.assertRaises(TooMany):
                kinding(Program(within(many)))

    def test_selves_from_the_right_are_told(self):
        told = kinding(Program(selves_inside(333)))
        self.assertEqual({kind.words for kind in told}, {(0,), (">", 0, 0), (">", ">", 0, 0, ">", 0, 0)})

    def test_widest_and_fits(self):
        for words in closed_rows():
            program = Program(words)
            wide = widest(program)
            self.assertTrue(is_even(wide))
            self.assertEqual(widest(rest(program)), wide)
            self.assertIs(fits(program, wide), True)
            self.assertIs(fits(program, filled(wide, {0: wide})), True)
            self.assertIs(fits(program, Kind((0,))), False)
            self.assertEqual(given_kind(wide, wide), widest(applied(program, program)))
            for place in steps(program)[:2]:
                self.assertEqual(widest(stepped(program, place)), wide)

    def test_likeness(self):
        rows = closed_rows()
        for words in rows:
            program = Program(words)
            self.assertIs(alike(program, standard(rest(program))), True)
            self.assertEqual(callers_kind(program, program), widest(program))
            for others in rows:
                other = Program(others)
                told = alike(program, other)
                self.assertIs(told, same(rest(program), rest(other)))
                self.assertIs(parting(program, other) is None, told)
                self.assertIs(callers_alike(program, other), callers_kind(program, other) is not None)

    def test_reading(self):
        for words in closed_rows():
            program = Program(words)
            self.assertEqual(program_of(widest(program)), standard(rest(program)))
            self.assertIsNone(fault_of(widest(program)))
            many = givens(rest(program))
            self.assertEqual(sorts(program), (many, 2 * many + 2))
            self.assertEqual(steps_by_kind(program), many_steps(program))

    def test_callers_of_long_ones(self):
        # The longer row is the shorter one filled out.
        one, other = Program(giver(100)), Program(giver(333))
        self.assertEqual(callers_kind(one, other), widest(other))
        self.assertFalse(alike(one, other))
        self.assertIsNone(callers_kind(Program(within(100)), Program(within(101))))


class DeepKindTest(LowTest):

    def test_read_from_lefts(self):
        kind = Kind(lefts(PAIRS))
        self.assertEqual(len(kind.words), 3999)
        self.assertIsNone(fault_of(kind))
        told = program_of(kind)
        self.assertIsNone(first_unlike(told.words, within(1000)))
        self.assertEqual(widest(told), numbered(kind))
        self.assertEqual(sorts(told), (999, 2000))
        self.assertEqual(steps_by_kind(told), 0)
        self.assertEqual(steps(told), ())
        self.assertIs(is_kinding(told, (kind,) * len(told.words)), False)

    def test_read_from_rights(self):
        kind = Kind((">",) + rights(list(range(1000))) + rights(list(range(1000))))
        self.assertEqual(len(kind.words), 3999)
        told = program_of(kind)
        self.assertIsNone(first_unlike(told.words, giver(1000)))
        self.assertIsNone(fault_of(kind))
        self.assertEqual(widest(told), kind)
        self.assertEqual(callers_kind(Program(("/x", "x")), told), kind)
        with self.assertRaises(TooMany):
            kinding(told)

    def test_faults_that_lie_deep(self):
        self.assertEqual(fault_of(Kind(lefts(list(range(2000))))), ("letter", 0))
        self.assertEqual(fault_of(Kind(rights(PAIRS))), ("side", 0))
        self.assertEqual(fault_of(Kind(lefts([999] + PAIRS[:-1]))), ("stops", 3998))
        crossed = [letter + at for letter in range(0, 1000, 2) for at in (0, 1, 0, 1)]
        self.assertEqual(fault_of(Kind(lefts(crossed))), ("side", 0))

    def test_faults_in_the_innermost_part(self):
        # What is wanted innermost begins behind 1900 signs ">".
        stopping = (">", ">", ">", 5000, 5001, 5002, ">", ">", 5000, 5003, ">", ">", 5002, 5001, 5003)
        for part, fault in [((">", 5000, 5000), None), ((">", ">", 5000, 5000, ">", 5001, 5001), ("left", 1901)),
                            (stopping, ("stops", 1908))]:
            kind = Kind((">",) * 1900 + part + tuple(PAIRS[2:1902]))
            self.assertEqual(fault_of(kind), fault)
            self.assertIs(program_of(kind) is None, fault is not None)

    def test_fits_of_great_kinds(self):
        kind = Kind(lefts(PAIRS))
        program = program_of(kind)
        for other in (kind, filled(kind, {3: kind, 7: Kind((1,))})):
            self.assertIs(fits(program, other), True)
            self.assertIs(fits(Program(("/x", "x")), other), False)
        self.assertIs(fits(Program(("x",)), kind), True)


class GreatProgramTest(LowTest):

    def test_they_may_be_passed_on(self):
        one, other = Program(giver(333)), Program(applied_row(selves(333)))
        whole = applied(applied(other, one), other)
        self.assertGreater(len(whole.words), 2900)
        self.assertEqual(widest(whole), given_kind(widest(one), widest(other)))
        self.assertEqual(program_of(widest(whole)), standard(rest(whole)))
        self.assertIsNone(fault_of(widest(whole)))
        self.assertIs(alike(whole, applied(one, Program(("/x", "x")))), True)
        self.assertEqual(callers_kind(whole, whole), widest(whole))
        self.assertEqual(steps_by_kind(whole), many_steps(whole))
        self.assertEqual(sorts(whole)[0], givens(rest(whole)))
        self.assertIs(fits(whole, widest(whole)), True)
        with self.assertRaises(TooMany):
            kinding(whole)


if __name__ == "__main__":
    unittest.main()
