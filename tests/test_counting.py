"""[6.1] How many programs, rests and programs in order there are."""

import unittest
from math import comb, factorial

from oncekinds.counting import is_in_order, many, many_in_order, many_rests
from oncekinds.errors import KindError, NoNumber, NotClosed
from oncekinds.kinding import widest
from oncekinds.naming import renamed
from oncekinds.programs import Program, open_names
from oncekinds.stepping import stepped, steps
from tests.samples import letterings, things
from tests.trees import all_steps, names_in, open_in, programs_with, tree_of

AGES = "pqrst"
ALL = {(givens, names): programs_with(givens, tuple(AGES[:names])) for givens in range(3) for names in range(5)}
ALL[3, 0] = programs_with(3)
ALL[3, 4] = programs_with(3, tuple("pqrs"))


def parts_of(words):
    """Return the list of the words of all parts."""
    found = []
    for at in range(len(words)):
        end, lacking = at, 1
        while lacking:
            lacking += {"@": 1, "/": 0}.get(words[end][0], -1)
            end += 1
        found.append(words[at:end])
    return found


def stands_by_age(words, elders=()):
    """Tell whether the open names of each part stand by age, by the definition; the elders are open, eldest first."""
    ages = list(elders) + [word[1:] for word in words if word[0] == "/"]
    for part in parts_of(words):
        row = [ages.index(name) for name in open_in(part)]
        if row != sorted(row):
            return False
    return True


def factorials_over(number):
    """Return the product of a number, the one less by 2, and so on."""
    product = 1
    while number > 1:
        product *= number
        number -= 2
    return product


class ManyTest(unittest.TestCase):

    def test_the_document(self):
        self.assertEqual(([many(n, 0) for n in range(4)], many_rests(1, 0), many_in_order(1, 0)), ([1, 5, 60, 1105], 3, 4))

    def test_against_the_listing(self):
        for (givens, names), rows in ALL.items():
            with self.subTest(givens=givens, names=names):
                self.assertEqual(many(givens, names), len(rows))
                self.assertEqual(many_rests(givens, names), sum(not all_steps(words) for words in rows))
                self.assertEqual(many_in_order(givens, names),
                                 sum(stands_by_age(words, AGES[:names]) for words in rows))
                self.assertEqual(len(set(rows)), len(rows))

    def test_numbers(self):
        for told in (many(7, 3), many_rests(7, 3), many_in_order(7, 3), many(0, 5)):
            self.assertIs(type(told), int)

    def test_names_that_cannot_stand(self):
        for givens in (0, 1, 2, 5, 9, 23, 38):
            for names in {givens + 2, (givens + 42) // 2, 40}:
                for count in (many, many_rests, many_in_order):
                    self.assertEqual(count(givens, names), 0)

    def test_closed_ones_by_the_recurrence(self):
        a = [1, 5]
        for n in range(2, 41):
            a.append(6 * n * a[n - 1] + sum(a[k] * a[n - 1 - k] for k in range(1, n - 1)))
        self.assertEqual([many(n, 0) for n in [*range(25), 39, 40]], a[:25] + a[39:])

    def test_without_takes(self):
        # Then each name is open; shapes of givens are counted by Catalan's numbers.
        for n in [*range(12), 25, 39]:
            shapes = comb(2 * n, n) // (n + 1)
            self.assertEqual(many(n, n + 1), factorial(n + 1) * shapes)
            self.assertEqual(many_rests(n, n + 1), factorial(n + 1) * shapes)
            self.assertEqual(many_in_order(n, n + 1), shapes)

    def test_in_order_by_a_closed_form(self):
        for n in [*range(16), 31, 40]:
            told = 2 ** (2 * n + 1) * factorials_over(3 * n) // (factorial(n + 2) * factorials_over(n))
            self.assertEqual(many_in_order(n, 0), told)

    def test_rests_by_their_kinds(self):
        # Two rests are never of one kind, and sorts of kinds tell how many givens the rest has.
        kinds = {widest(Program(words)).words for givens in range(4) for words in ALL[givens, 0]}
        for givens in range(4):
            self.assertEqual(many_rests(givens, 0), sum(len(words) == 4 * givens + 3 for words in kinds))
        self.assertEqual([many_rests(n, 0) for n in range(5)], [1, 3, 26, 367, 7142])
        self.assertGreater(many(40, 0), many_rests(40, 0))
        self.assertGreater(many_rests(40, 0), many_in_order(40, 0))

    def test_takes_and_pairs(self):
        # What takes has a body with one name more; what gives shares its names between two.
        for givens, names in ((1, 0), (4, 1), (5, 0), (5, 3), (9, 2), (9, 9)):
            pairs = sum(comb(names, own) * many(less, own) * many(givens - 1 - less, names - own)
                        for less in range(givens) for own in range(names + 1))
            self.assertEqual(many(givens, names), many(givens, names + 1) + pairs)

    def test_no_number(self):
        for thing in things() + [41, 42, -1, 10 ** 39, "0", (0,), [0], {0: 0}]:
            if isinstance(thing, bool) or not isinstance(thing, int) or not 0 <= thing <= 40:
                for count in (many, many_rests, many_in_order):
                    for row in ((thing, 0), (0, thing), (thing, thing), (41, thing), (thing, -1), (40, thing)):
                        with self.subTest(thing=repr(thing)[:60]):
                            with self.assertRaises(NoNumber) as caught:
                                count(*row)
                            self.assertIsInstance(caught.exception, KindError)

    def test_the_greatest_numbers(self):
        self.assertEqual([count(40, 40) > 0 for count in (many, many_rests, many_in_order)], [True] * 3)
        self.assertEqual([count(0, 40) for count in (many, many_rests, many_in_order)], [0] * 3)


class InOrderTest(unittest.TestCase):

    def judged(self, words):
        """Return what is_in_order says; it must be a flag."""
        told = is_in_order(Program(words))
        self.assertIs(type(told), bool)
        return told

    def test_some_programs(self):
        self.assertTrue(self.judged(("/x", "x")))
        self.assertTrue(self.judged(("/f", "/x", "@", "f", "x")))
        self.assertFalse(self.judged(("/f", "/x", "@", "x", "f")))
        self.assertTrue(self.judged(("@", "/x", "x", "/y", "y")))
        # The names of a take within stand behind those that were taken ahead of it.
        self.assertTrue(self.judged(("/f", "@", "f", "/x", "x")))
        self.assertFalse(self.judged(("/a", "/b", "@", "/c", "@", "c", "a", "b")))
        self.assertTrue(self.judged(("/a", "/b", "@", "/c", "@", "a", "c", "b")))
        # What stands wrong lies in a part alone.
        self.assertFalse(self.judged(("@", "/x", "x", "/f", "/y", "@", "y", "f")))
        self.assertFalse(self.judged(("/a", "@", "a", "/b", "/c", "@", "c", "b")))

    def test_all_small_programs(self):
        for givens in range(4):
            for words in ALL[givens, 0]:
                self.assertIs(self.judged(words), stands_by_age(words), words)

    def test_names_tell_no_age(self):
        for words in ALL[2, 0]:
            names = sorted(names_in(tree_of(words)[0]))
            program = renamed(Program(words), dict(zip(names, reversed(letterings(len(names))))))
            self.assertIs(is_in_order(program), stands_by_age(words))

    def test_steps_keep_it(self):
        for words in ALL[3, 0]:
            program = Program(words)
            if is_in_order(program):
                for place in steps(program):
                    self.assertIs(is_in_order(stepped(program, place)), True)

    def test_not_closed(self):
        for (givens, names), rows in ALL.items():
            for words in rows[::9] if names else []:
                self.assertTrue(open_names(Program(words)))
                with self.assertRaises(NotClosed) as caught:
                    is_in_order(Program(words))
                self.assertIsInstance(caught.exception, KindError)

    def test_any_object_is_judged(self):
        for thing in things():
            if not isinstance(thing, Program):
                with self.subTest(thing=repr(thing)[:60]):
                    self.assertIs(is_in_order(thing), False)


if __name__ == "__main__":
    unittest.main()
