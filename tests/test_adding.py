"""[7.1] and [7.2] Sums, values that are ones, and how many of these there are."""

import unittest
from itertools import product

from oncekinds.adding import closed_part, is_ones, many_ones, ones, polynomial, sums
from oncekinds.counting import many, program_at
from oncekinds.errors import KindError, NoNumber, NotClosed, NoValues, TooMany
from oncekinds.programs import Program, ends, takes
from tests.samples import applied_row, draws, fresh, leftward, rightward, selves, selves_inside, things
from tests.trees import open_in, programs_with
from tests.web_shapes import circle, cornered, crossed, petersen, program_with_web

CLOSED = [words for givens in range(3) for words in programs_with(givens)]
GREATER = programs_with(3)[::23]
OPEN = [("x",), ("@", "x", "y"), ("/x", "@", "x", "y"), ("@", "/x", "x", "y"), leftward(fresh(40), set())]
NO_DIVISORS = [0, -1, -10 ** 39, "1", (1,), [1], {1: 1}]
TEN = program_with_web(crossed(petersen(), petersen()), 0)[0]
ELEVEN = program_with_web(cornered(crossed(petersen(), petersen()), "po2"), 0)[0]


def parts_of(words):
    """Return the list of the words of all parts."""
    return [words[at:end] for at, end in enumerate(ends(Program(words)))]


def rows_of(words):
    """Return for each part the list of the indexes of the takes of its open names."""
    taken = [word[1:] for word in words if word[0] == "/"]
    return [[taken.index(name) for name in open_in(part)] for part in parts_of(words)]


def sums_by_parts(words, m, values):
    """Return the tuple of the sums, each of them worked out from the open names of its part."""
    return tuple(sum(values[index] for index in row) % m for row in rows_of(words))


def all_ones(words, m):
    """Return the list of all values with which no part but the whole has the sum 0."""
    rows = rows_of(words)[1:]
    return [values for values in product(range(m), repeat=sum(word[0] == "/" for word in words))
            if all(sum(values[index] for index in row) % m for row in rows)]


def is_divisor(thing):
    """Tell whether a thing is an integer from 1 on."""
    return isinstance(thing, int) and not isinstance(thing, bool) and thing >= 1


def wrong_values(many_takes, m):
    """Return things that are no values for so many takes."""
    right = (m - 1,) * many_takes
    rows = [right[1:], right + (0,), list(right), right[1:] + (m,), (m,) + right[1:], (-1,) + right[1:],
            right[1:] + (10 ** 39 + m,), dict(enumerate(right)), {0: right}]
    rows += [right[1:] + (thing,) for thing in things() if isinstance(thing, bool) or not isinstance(thing, int)]
    # The empty tuple is no thing of its own: each closed program has a take.
    return rows + things()


class SumsTest(unittest.TestCase):

    def test_the_document(self):
        program = Program(("/f", "/x", "@", "f", "x"))
        self.assertEqual(sums(program, 5, (2, 4)), (0, 2, 1, 2, 4))
        self.assertEqual(sums(program, 1, (0, 0)), (0, 0, 0, 0, 0))
        self.assertIs(type(sums(program, 5, (2, 4))), tuple)

    def test_by_the_definition(self):
        drawn = draws(5)
        for words in CLOSED + GREATER + [TEN, ELEVEN]:
            count = takes(Program(words))
            for m in (1, 2, 3, 7, 10 ** 39 + 1):
                values = tuple(next(drawn) ** 5 % m for _ in range(count))
                told = sums(Program(words), m, values)
                self.assertEqual(told, sums_by_parts(words, m, values))
                self.assertEqual(told[0], 0)
                self.assertIs(is_ones(Program(words), m, values), 0 not in told[1:])

    def test_not_closed_comes_first(self):
        for words in OPEN:
            for m, values in ((3, (1,)), (0, None), (None, (1, 2))):
                for call in (sums, is_ones):
                    with self.assertRaises(NotClosed) as caught:
                        call(Program(words), m, values)
                    self.assertIsInstance(caught.exception, KindError)

    def test_then_no_number(self):
        program = Program(("/f", "/x", "@", "f", "x"))
        for thing in things() + NO_DIVISORS:
            if not is_divisor(thing):
                for values in ((1, 1), None, (thing, thing)):
                    for call in (sums, is_ones):
                        with self.subTest(thing=repr(thing)[:60]):
                            with self.assertRaises(NoNumber) as caught:
                                call(program, thing, values)
                            self.assertIsInstance(caught.exception, KindError)

    def test_then_no_values(self):
        for words in (("/x", "x"), ("/f", "/x", "@", "f", "x")):
            program = Program(words)
            for m in (1, 2, 5, 10 ** 39):
                for thing in wrong_values(takes(program), m):
                    with self.subTest(thing=repr(thing)[:60]):
                        with self.assertRaises(NoValues) as caught:
                            sums(program, m, thing)
                        self.assertIsInstance(caught.exception, KindError)
                        self.assertIs(is_ones(program, m, thing), False)


class OnesTest(unittest.TestCase):

    def test_all_values(self):
        for words in CLOSED + GREATER[::3]:
            program = Program(words)
            for m in range(1, 6):
                right = all_ones(words, m)
                self.assertEqual(many_ones(program, m), len(right))
                told = ones(program, m)
                if right:
                    self.assertIn(told, right)
                    self.assertIs(is_ones(program, m, told), True)
                else:
                    self.assertIsNone(told)
                for values in product(range(m), repeat=takes(program)) if m < 5 else ():
                    self.assertIs(is_ones(program, m, values), values in right)

    def test_up_to_eight(self):
        for words in CLOSED[::7] + [CLOSED[0]]:
            for m in (6, 7, 8):
                right = all_ones(words, m)
                self.assertEqual(many_ones(Program(words), m), len(right))
                self.assertIs(ones(Program(words), m) is None, not right)

    def test_ten_takes(self):
        # Two webs without hues, crossed: none for 4, but some for 5.
        program = Program(TEN)
        self.assertEqual(takes(program), 10)
        for m in (1, 2, 3, 4):
            self.assertIsNone(ones(program, m))
            self.assertEqual(many_ones(program, m), 0)
        for m in (5, 6, 7, 8):
            self.assertIs(is_ones(program, m, ones(program, m)), True)
            self.assertGreater(many_ones(program, m), 0)
        for words in (applied_row(selves(10)), selves_inside(10)):
            for m in range(1, 9):
                self.assertIsNone(ones(Program(words), m))
                self.assertEqual(many_ones(Program(words), m), 0)

    def test_drawn_ones_with_ten_takes(self):
        drawn = draws(3)
        for _ in range(100):
            program = program_at(9, next(drawn) ** 3 % many(9, 0))
            counts = polynomial(program)
            for m in range(1, 9):
                told = ones(program, m)
                self.assertIs(told is None, sum(count * m ** at for at, count in enumerate(counts)) == 0)
                self.assertIs(is_ones(program, m, told), told is not None)

    def test_two_is_enough_for_one_program_alone(self):
        for words in CLOSED + GREATER:
            self.assertIs(ones(Program(words), 2) is None, words[1:] != ("a",))
            self.assertIsNone(ones(Program(words), 1))

    def test_great_divisors(self):
        program = Program(("/f", "/x", "@", "f", "x"))
        for m in (10 ** 39 + 7, 10 ** 40 - 1):
            self.assertEqual(many_ones(program, m), (m - 1) * (m - 2))
            self.assertEqual(many_ones(Program(("/x", "x")), m), m - 1)
            self.assertIs(is_ones(program, m, (m - 1, 1)), False)
            self.assertIs(is_ones(program, m, (m - 1, m - 1)), True)

    def test_not_closed_comes_first(self):
        for words in OPEN:
            for m in (3, 0, None, 9):
                for call in (ones, many_ones):
                    with self.assertRaises(NotClosed) as caught:
                        call(Program(words), m)
                    self.assertIsInstance(caught.exception, KindError)

    def test_then_no_number(self):
        for words in (("/f", "/x", "@", "f", "x"), ELEVEN, applied_row(selves(50))):
            program = Program(words)
            for thing in things() + NO_DIVISORS + [9, 10, 10 ** 39]:
                if not is_divisor(thing) or thing > 8:
                    with self.subTest(thing=repr(thing)[:60]):
                        with self.assertRaises(NoNumber):
                            ones(program, thing)
                if not is_divisor(thing):
                    with self.assertRaises(NoNumber) as caught:
                        many_ones(program, thing)
                    self.assertIsInstance(caught.exception, KindError)

    def test_then_too_many(self):
        for words in (ELEVEN, applied_row(selves(11)), applied_row(selves(50))):
            for m in (1, 5, 8):
                for call in (ones, many_ones):
                    with self.assertRaises(TooMany) as caught:
                        call(Program(words), m)
                    self.assertEqual(caught.exception.most, 10)
                    self.assertIsInstance(caught.exception, KindError)
            self.assertIs(is_ones(Program(words), 5, (1,)), False)


class PolynomialTest(unittest.TestCase):

    def test_some_programs(self):
        self.assertEqual(polynomial(Program(("/f", "/x", "@", "f", "x"))), (2, -3, 1))
        self.assertEqual(polynomial(Program(("/x", "x"))), (-1, 1))
        self.assertEqual(polynomial(Program(("@", "/x", "x", "/y", "y"))), ())
        self.assertEqual(polynomial(Program(("/x", "@", "x", "/y", "y"))), ())
        self.assertIs(type(polynomial(Program(("/x", "x")))), tuple)

    def test_known_webs(self):
        # (m - 1) (m - 2) (m - 3) (m - 4) (m ** 2 - 5 m + 10) is that of Petersen's web.
        self.assertEqual(polynomial(Program(program_with_web(petersen(), 3)[0])), (240, -620, 624, -325, 95, -15, 1))
        # (m - 1) (m - 2) (m ** 3 - 9 m ** 2 + 29 m - 32) is that of the cube.
        self.assertEqual(polynomial(Program(program_with_web(circle(4, True), 5)[0])), (-64, 154, -137, 58, -12, 1))

    def test_one_web_has_one_polynomial(self):
        for web in (circle(3, True), circle(5, False), cornered(circle(4, False), "u1")):
            told = {polynomial(Program(program_with_web(web, root)[0])) for root in range(len(web))}
            self.assertEqual(len(told), 1)

    def test_against_all_values(self):
        for words in CLOSED + GREATER:
            told = polynomial(Program(words))
            self.assertTrue(not told or told[-1] != 0)
            for m in range(1, 5 if len(words) > 8 else 9):
                self.assertEqual(sum(count * m ** at for at, count in enumerate(told)), len(all_ones(words, m)))

    def test_without_any(self):
        for words in CLOSED + GREATER + [TEN]:
            closed = any(not open_in(part) for part in parts_of(words)[1:])
            self.assertIs(polynomial(Program(words)) == (), closed)

    def test_the_greatest_power(self):
        drawn = draws(8)
        for givens in range(10):
            for _ in range(20):
                told = polynomial(program_at(givens, next(drawn) ** 3 % many(givens, 0)))
                self.assertIn(len(told), (0, givens + 2))
                self.assertTrue(not told or told[-1] == 1)

    def test_errors(self):
        for words in OPEN:
            for call in (polynomial, closed_part):
                with self.assertRaises(NotClosed) as caught:
                    call(Program(words))
                self.assertIsInstance(caught.exception, KindError)
        for words in (ELEVEN, applied_row(selves(11)), applied_row(selves(50))):
            with self.assertRaises(TooMany) as caught:
                polynomial(Program(words))
            self.assertEqual(caught.exception.most, 10)


class ClosedPartTest(unittest.TestCase):

    def test_some_programs(self):
        self.assertIsNone(closed_part(Program(("/x", "x"))))
        self.assertIsNone(closed_part(Program(("/f", "/x", "@", "f", "x"))))
        self.assertEqual(closed_part(Program(("@", "/x", "x", "/y", "y"))), 1)
        self.assertEqual(closed_part(Program(("/x", "@", "x", "/y", "y"))), 3)
        self.assertEqual(closed_part(Program(("/x", "@", "@", "x", "/y", "y", "/z", "z"))), 4)

    def test_by_the_definition(self):
        for words in CLOSED + GREATER + [TEN, ELEVEN, applied_row(selves(50)), rightward(fresh(60), set(fresh(60)))]:
            places = [at for at, part in enumerate(parts_of(words)) if at > 0 and not open_in(part)]
            self.assertEqual(closed_part(Program(words)), places[0] if places else None)


if __name__ == "__main__":
    unittest.main()
