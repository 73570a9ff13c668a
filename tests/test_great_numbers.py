"""[0.3] and [0.5]: counts, sums, webs and texts of programs and kinds that lie deep or are great."""

import unittest

from oncekinds.adding import closed_part, is_ones, many_ones, ones, polynomial, sums
from oncekinds.counting import is_in_order, number_of
from oncekinds.errors import BadKind, BadProgram, NotClosed, TooMany
from oncekinds.filling import filled
from oncekinds.kinding import widest
from oncekinds.kinds import Kind
from oncekinds.live import Run
from oncekinds.naming import applied
from oncekinds.programs import Program, givens, taken_at, takes
from oncekinds.reading import program_of
from oncekinds.stepping import rest, stepped, steps
from oncekinds.texts import kind_text, read, read_kind, text
from oncekinds.webs import camps, hues, is_hues, is_odd_ring, odd_ring, wires
from tests.kind_shapes import KIND_SHAPES, lefts
from tests.low import LowTest
from tests.samples import SHAPES, applied_row, first_unlike, fresh, letterings, selves, selves_inside


def takes_ahead(many, turned):
    """Return the words of a program that takes so many names and gives them to one another, one behind another."""
    names = letterings(many)
    standing = tuple(reversed(names)) if turned else tuple(names)
    return tuple("/" + name for name in names) + ("@",) * (many - 1) + standing


def deep_rows():
    """Return the words of closed programs with about 333 givens that lie one within another."""
    names = fresh(333)
    rows = [shape(names, set(names)) for shape in SHAPES]
    rows += [tuple("/" + name for name in names) + shape(names, ()) for shape in SHAPES]
    return rows + [applied_row(selves(333)), selves_inside(333), takes_ahead(333, True), takes_ahead(333, False)]


def great_ones():
    """Return closed programs that are greater than Program lets through."""
    rows = [Program(words) for words in deep_rows()]
    whole = applied(applied(rows[0], rows[3]), applied(rows[6], rows[8]))
    return [whole, applied(rows[2], rows[5]), stepped(whole, steps(whole)[0]), rest(applied(rows[3], rows[8]))]


def all_rows():
    """Return all these closed programs."""
    return [Program(words) for words in deep_rows()] + great_ones()


class DeepTest(LowTest):

    def test_order(self):
        names = letterings(333)
        for program in all_rows():
            self.assertIn(is_in_order(program), (True, False))
            if givens(program) > 12:
                with self.assertRaises(TooMany) as caught:
                    number_of(program)
                self.assertEqual(caught.exception.most, 12)
        self.assertIs(is_in_order(Program(takes_ahead(333, False))), True)
        self.assertIs(is_in_order(Program(takes_ahead(333, True))), False)
        wrong = names[:-2] + [names[-1], names[-2]]
        words = tuple("/" + name for name in names) + ("@",) * 332 + tuple(wrong)
        self.assertIs(is_in_order(Program(words)), False)
        self.assertIs(is_in_order(Program(selves_inside(333))), True)
        with self.assertRaises(NotClosed):
            is_in_order(Program(SHAPES[0](fresh(333), ())))

    def test_sums(self):
        for program in all_rows():
            count = takes(program)
            told = sums(program, 2 ** 100, (1,) * count)
            self.assertEqual(told[0], 0)
            self.assertEqual(sums(program, 10 ** 39, (10 ** 39 - 1,) * count)[0], 0)
            place = closed_part(program)
            self.assertEqual(place, next((at for at, whole in enumerate(told) if at and whole == 0), None))
            self.assertIs(is_ones(program, 2 ** 100, (1,) * count), place is None)
            for call in (ones, many_ones):
                with self.assertRaises(TooMany):
                    call(program, 5)
            with self.assertRaises(TooMany) as caught:
                polynomial(program)
            self.assertEqual(caught.exception.most, 10)

    def test_sums_place_by_place(self):
        program = Program(takes_ahead(333, False))
        told = sums(program, 10 ** 6, tuple(range(333)))
        self.assertIsNone(first_unlike(told[:333], tuple(at * (at - 1) // 2 for at in range(333))))
        self.assertIsNone(first_unlike(told[333:], tuple(at * (at - 1) // 2 for at in range(333, 1, -1)) + tuple(range(333))))

    def test_webs(self):
        for program in all_rows():
            told = wires(program)
            self.assertEqual(len(told), 3 * givens(program))
            flags, ring = camps(program), odd_ring(program)
            self.assertIs(flags is None, ring is not None)
            if flags is None:
                self.assertIs(is_odd_ring(program, ring), True)
                self.assertIs(is_odd_ring(program, ring[::-1]), True)
                self.assertIs(is_odd_ring(program, ring[:-1]), False)
                self.assertIs(is_odd_ring(program, ring[:-1] + (0,)), False)
            else:
                self.assertEqual(len(flags), 2 * givens(program))
                places = [at for at, word in enumerate(program.words) if at and word[0] in "@/"]
                table = dict(zip(places, flags))
                self.assertTrue(all(table[one] != table[other] for one, other in told))
            self.assertIs(is_hues(program, (0,) * len(told)), False)
            with self.assertRaises(TooMany) as caught:
                hues(program)
            self.assertEqual(caught.exception.most, 36)

    def test_rings_of_one_knot(self):
        # Each take within has a wire to itself; the one other ring has 332 knots.
        program = Program(("/a",) + tuple(word for name in fresh(332) for word in ("@", "/" + name, name)) + ("a",))
        self.assertEqual(len(odd_ring(program)), 1)
        self.assertIs(is_odd_ring(program, odd_ring(program)), True)
        around = tuple(at for at, word in enumerate(program.words) if word == "@")
        self.assertEqual(len(around), 332)
        self.assertIs(is_odd_ring(program, around), False)
        longer = Program(("/a",) + tuple(word for name in fresh(331) for word in ("@", "/" + name, name)) + ("a",))
        self.assertIs(is_odd_ring(longer, around[:-1]), True)
        self.assertIs(is_odd_ring(longer, around[-2::-1]), True)
        self.assertIs(is_odd_ring(longer, around[:-2]), False)

    def test_texts(self):
        for program in [Program(words) for words in deep_rows()]:
            told = text(program)
            self.assertIsNone(first_unlike(read(told).words, program.words))
            self.assertEqual(text(read(told)), told)
        for program in great_ones():
            told = text(program)
            self.assertEqual(told.count("("), givens(program))
            if len(program.words) > 1000:
                with self.assertRaises(BadProgram) as caught:
                    read(told)
                self.assertEqual(caught.exception.index, -1)
            else:
                self.assertEqual(read(told), program)

    def test_open_texts(self):
        names = fresh(334)
        for shape in SHAPES:
            for taken in ((), names[::2]):
                program = Program(shape(names, set(taken)))
                self.assertIsNone(first_unlike(read(text(program)).words, program.words))

    def test_kind_texts(self):
        for shape in KIND_SHAPES:
            for row in (list(range(700)), [0] * 2000, [701, 3] * 1000):
                kind = Kind(shape(row))
                self.assertIsNone(first_unlike(read_kind(kind_text(kind)).words, kind.words))
        for program in all_rows():
            kind = widest(program)
            told = kind_text(kind)
            if max(word for word in kind.words if word != ">") < 702 and len(kind.words) <= 4000:
                self.assertIsNone(first_unlike(read_kind(told).words, kind.words))
            self.assertIsNone(first_unlike(program_of(kind).words, program_of(widest(rest(program))).words))

    def test_great_kind_texts(self):
        kind = Kind(lefts([0] * 2000))
        whole = filled(Kind((">", 0, 0)), {0: kind})
        told = kind_text(whole)
        self.assertEqual(told.count(">"), 3999)
        with self.assertRaises(BadKind) as caught:
            read_kind(told)
        self.assertEqual(caught.exception.index, -1)

    def test_what_runs_come_to(self):
        for words in (takes_ahead(333, True), applied_row(selves(333)), selves_inside(333)):
            run = Run(applied(Program(words), Program(("/x", "x"))))
            run.to_rest()
            program = run.program()
            self.assertIsNone(first_unlike(text(program), text(rest(run.program()))))
            self.assertEqual(len(wires(program)), 3 * givens(program))
            self.assertEqual(sums(program, 7, (3,) * takes(program))[0], 0)
            self.assertIn(is_in_order(program), (True, False))
            for at in range(0, len(program.words), 50):
                self.assertTrue(taken_at(program, at) is None or taken_at(program, at) < at)


if __name__ == "__main__":
    unittest.main()
