"""[0.4], [2.2], [3.2], [4.1] and [8.1]: whichever way a program comes, it has one rest and one widest kind."""

import unittest

from oncekinds.adding import polynomial
from oncekinds.books import Book
from oncekinds.counting import many, number_of, program_at
from oncekinds.filling import given_kind
from oncekinds.kinding import fits, kinding, widest
from oncekinds.kinds import numbered
from oncekinds.likeness import alike, callers_alike, parting
from oncekinds.live import Run
from oncekinds.naming import applied, put_in, renamed, same, standard
from oncekinds.programs import Program, givens, takes
from oncekinds.reading import fault_of, program_of, sorts, steps_by_kind
from oncekinds.stepping import is_way, many_steps, rest, stepped, steps
from oncekinds.texts import kind_text, read, read_kind, text
from oncekinds.webs import camps, hues, wires
from tests.samples import draws, fresh


def drawn_programs(seed, count, most):
    """Return closed programs with up to so many givens."""
    drawn = draws(seed)
    rows = []
    for _ in range(count):
        inner = next(drawn) % (most + 1)
        rows.append(program_at(inner, next(drawn) ** 4 % many(inner, 0)))
    return rows


def led(program, drawn):
    """Return the program behind some drawn steps."""
    for _ in range(next(drawn) % 3):
        if steps(program):
            program = stepped(program, steps(program)[next(drawn) % len(steps(program))])
    return program


def doors(program, drawn):
    """Return programs that come to the same: grown, stepped, told anew, as texts, by Runs, read off the kind."""
    names = [word[1:] for word in program.words if word[0] == "/"]
    run = Run(program)
    places = run.to_rest()
    far = run.program()
    for _ in range(next(drawn) % (len(places) + 1)):
        run.back()
    copy = run.copy()
    copy.to_rest()
    return [
        led(program, drawn), renamed(program, dict(zip(names, reversed(fresh(len(names)))))), standard(program),
        read(text(program)), far, run.program(), copy.program(), rest(program), program_of(widest(program)),
        program_of(read_kind(kind_text(widest(program)))), applied(Program(("/x", "x")), program),
        applied(read("[f] [x] (f x)"), program), put_in(read("([u] u z)"), "z", program),
        put_in(read("[y] (z y)"), "z", program), program_at(givens(program), number_of(program)),
    ]


class DoorsTest(unittest.TestCase):

    def test_one_rest_and_one_kind(self):
        drawn = draws(77)
        for program in drawn_programs(5, 60, 7):
            kind, last = widest(program), standard(rest(program))
            for other in doors(program, drawn):
                self.assertEqual(widest(other), kind)
                self.assertEqual(standard(rest(other)), last)
                self.assertTrue(alike(program, other) and callers_alike(other, program) and fits(other, kind))
                self.assertIsNone(parting(other, program))
                self.assertEqual(sorts(other), (givens(last), 2 * givens(last) + 2))
                self.assertEqual(steps_by_kind(other), many_steps(other))
                self.assertEqual(numbered(kinding(other)[0]), kind)
                run = Run(other)
                self.assertTrue(is_way(other, rest(other), run.to_rest()))
                self.assertTrue(same(run.program(), last))

    def test_by_a_book_too(self):
        for one, other in zip(drawn_programs(8, 25, 4), drawn_programs(9, 25, 4)):
            book = Book()
            book.put("one", one)
            book.put("other", other)
            book.put("both", Program(("@", "one", "other")))
            whole = applied(one, other)
            self.assertEqual(book.kind("both"), given_kind(widest(one), widest(other)))
            self.assertEqual((book.kind("both"), book.rest("both")), (widest(whole), standard(rest(whole))))
            self.assertEqual((book.rest("one"), book.kind("one")), (standard(rest(one)), widest(one)))
            self.assertIsNone(fault_of(book.kind("both")))

    def test_equal_calls_give_equal_answers(self):
        calls = [steps, rest, many_steps, kinding, widest, sorts, number_of, polynomial, wires, camps, hues, text, takes, standard]
        rows = drawn_programs(13, 30, 7)
        before = [program.words for program in rows]
        told = [[call(program) for call in calls] for program in rows]
        for at in reversed(range(len(rows))):
            again = Program(tuple(list(before[at])))
            self.assertEqual([call(again) for call in reversed(calls)], told[at][::-1])
        self.assertEqual([program.words for program in rows], before)


if __name__ == "__main__":
    unittest.main()
