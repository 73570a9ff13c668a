"""[6.2] The order of the closed programs, and their numbers in it."""

import unittest

from oncekinds.counting import many, number_of, program_at, programs
from oncekinds.errors import KindError, NoNumber, NotClosed, TooMany
from oncekinds.naming import renamed, standard
from oncekinds.programs import Program, givens, open_names, takes
from tests.samples import draws, fresh, leftward, letterings, things
from tests.trees import names_in, programs_with, tree_of


def givens_in(tree):
    """Return how many givens a tree has."""
    if tree[0] == "name":
        return 0
    return givens_in(tree[2]) if tree[0] == "/" else 1 + givens_in(tree[1]) + givens_in(tree[2])


def open_by_age(tree, elders):
    """Return the list of the open names of a tree by age; the elders are all that may be open, eldest first."""
    standing = names_in(tree)
    return [name for name in elders if name in standing]


def rank_key(tree, names=()):
    """Return a tuple by which trees with as many givens and open names are in order; the names are those by age."""
    if tree[0] == "name":
        return ()
    if tree[0] == "/":
        return (0, rank_key(tree[2], tuple(names) + (tree[1],)))
    own, others = open_by_age(tree[1], names), open_by_age(tree[2], names)
    ages = tuple(names.index(name) for name in own)
    return (1, givens_in(tree[1]), ages, rank_key(tree[1], tuple(own)), rank_key(tree[2], tuple(others)))


def key_of(words):
    """Return the tuple by which closed programs are in order."""
    return rank_key(tree_of(words)[0])


def numbers_below(most, seed):
    """Return some numbers below most, the first and the last ones among them."""
    drawn = draws(seed)
    row = {0, 1, most // 2, most - 2, most - 1}
    row |= {(next(drawn) * 2 ** 80 + next(drawn) * 2 ** 60 + next(drawn) * 2 ** 30 + next(drawn)) % most for _ in range(40)}
    return sorted(number for number in row if 0 <= number < most)


class ProgramAtTest(unittest.TestCase):

    def test_all_in_order(self):
        for count in range(4):
            rows = sorted(programs_with(count), key=key_of)
            self.assertEqual([program_at(count, number).words for number in range(many(count, 0))], rows)

    def test_forth_and_back(self):
        for count in range(13):
            most = many(count, 0)
            for number in numbers_below(most, count):
                program = program_at(count, number)
                self.assertIsInstance(program, Program)
                self.assertEqual((givens(program), takes(program), open_names(program)), (count, count + 1, ()))
                self.assertEqual(number_of(program), number)
                self.assertEqual(standard(program), program)

    def test_greater_ones_are_in_order(self):
        for count in range(4, 13):
            row = numbers_below(many(count, 0), 7 * count)
            row += [number + 1 for number in row if number + 1 < many(count, 0)]
            keys = [key_of(program_at(count, number).words) for number in sorted(set(row))]
            self.assertEqual(keys, sorted(keys))
            self.assertEqual(len(keys), len(set(keys)))

    def test_the_first_and_the_last(self):
        # A take comes ahead of all that gives; the last one gives a program without givens to another one.
        for count in range(1, 13):
            first, last = program_at(count, 0).words, program_at(count, many(count, 0) - 1).words
            self.assertEqual(first[:count + 1], tuple("/" + name for name in letterings(count + 1)))
            self.assertEqual(first[-1], letterings(count + 1)[-1])
            self.assertEqual(last[0], "@")
            self.assertEqual(last[-2:], ("/" + letterings(count + 1)[-1], letterings(count + 1)[-1]))

    def test_no_number(self):
        for thing in things() + [13, 14, 41, -1, "0", (0,), [0]]:
            if isinstance(thing, bool) or not isinstance(thing, int) or not 0 <= thing <= 12:
                for other in (0, thing):
                    with self.subTest(thing=repr(thing)[:60]):
                        with self.assertRaises(NoNumber) as caught:
                            program_at(thing, other)
                        self.assertIsInstance(caught.exception, KindError)

    def test_no_number_below(self):
        for count in range(13):
            most = many(count, 0)
            for thing in things() + [most, most + 1, -1, -most, 10 ** 39, "0", (0,), None]:
                if isinstance(thing, bool) or not isinstance(thing, int) or not 0 <= thing < most:
                    with self.assertRaises(NoNumber):
                        program_at(count, thing)


class NumberOfTest(unittest.TestCase):

    def test_names_change_nothing(self):
        for count in (0, 1, 2, 3, 7, 12):
            for number in numbers_below(many(count, 0), 31 * count)[::3]:
                program = program_at(count, number)
                names = [word[1:] for word in program.words if word[0] == "/"]
                other = renamed(program, dict(zip(names, reversed(fresh(len(names))))))
                self.assertEqual(number_of(other), number)
                self.assertIs(type(number_of(other)), int)

    def test_not_closed(self):
        long = leftward(fresh(40), set())
        for words in [("x",), ("@", "/x", "x", "y"), ("/x", "@", "y", "x"), long, ("/x", "@", "x") + long]:
            with self.assertRaises(NotClosed) as caught:
                number_of(Program(words))
            self.assertIsInstance(caught.exception, KindError)

    def test_too_many(self):
        for more in (13, 14, 40, 300):
            names = fresh(more + 1)
            with self.assertRaises(TooMany) as caught:
                number_of(Program(leftward(names, set(names))))
            self.assertEqual(caught.exception.most, 12)
            self.assertIsInstance(caught.exception, KindError)
        names = fresh(13)
        number = number_of(Program(leftward(names, set(names))))
        self.assertEqual(program_at(12, number), standard(Program(leftward(names, set(names)))))


class ProgramsTest(unittest.TestCase):

    def test_the_whole_lists(self):
        for count in range(4):
            told = programs(count)
            self.assertIs(type(told), list)
            self.assertEqual(len(told), many(count, 0))
            for number, program in enumerate(told):
                self.assertIsInstance(program, Program)
                self.assertEqual(program.words, program_at(count, number).words)
                self.assertEqual(number_of(program), number)

    def test_each_list_is_a_new_one(self):
        told = programs(1)
        told.reverse()
        told.pop()
        self.assertEqual(len(programs(1)), 5)
        self.assertEqual([program.words for program in programs(1)][0], ("/a", "/b", "@", "a", "b"))
        self.assertIsNot(programs(2), programs(2))

    def test_no_number(self):
        for thing in things() + [4, 5, 12, -1, "0", (0,), [0], {0: 0}]:
            if isinstance(thing, bool) or not isinstance(thing, int) or not 0 <= thing <= 3:
                with self.subTest(thing=repr(thing)[:60]):
                    with self.assertRaises(NoNumber) as caught:
                        programs(thing)
                    self.assertIsInstance(caught.exception, KindError)


if __name__ == "__main__":
    unittest.main()
