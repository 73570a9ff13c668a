"""[3.1] Kinds in words, their letters and the sides on which these stand."""

import unittest
from itertools import product

from oncekinds.errors import BadKind, KindError
from oncekinds.kinds import Kind, is_even, numbered, sides
from oncekinds.programs import Program
from tests.kind_trees import even_kinds, kinds_with, numbered_words, sides_of, tree
from tests.samples import first_unlike, things

SMALL = [words for places in range(1, 6) for words in kinds_with(places)]
GREAT = 10 ** 39


def fault(words):
    """Return the index that BadKind tells, or None for a kind."""
    try:
        Kind(words)
    except BadKind as error:
        return error.index
    return None


def wanted_fault(words):
    """Return the index of the first fault of words that are all words, or None, by trees."""
    try:
        tree(words)
    except IndexError:
        return len(words)
    for many in range(1, len(words)):
        try:
            tree(words[:many])
        except IndexError:
            continue
        return many
    return None


def long_kind(letters):
    """Return the words of a kind with so many letters, each of them once."""
    return (">",) * (letters - 1) + tuple(range(letters))


def even_by_trees(words):
    """Tell whether each letter stands just twice, once on either side."""
    letters = [word for word in words if word != ">"]
    stands = sorted(zip(letters, sides_of(tree(words))))
    return stands == sorted([(letter, side) for letter in set(letters) for side in (False, True)])


class WordsTest(unittest.TestCase):

    def test_words_are_kept(self):
        for words in SMALL + [(7,), (GREAT,), (">", GREAT, 0), (">", 5, ">", 5, 3)]:
            self.assertEqual(Kind(words).words, words)
            self.assertIs(type(Kind(words).words), tuple)

    def test_no_tuple(self):
        for thing in things():
            if not isinstance(thing, tuple):
                with self.subTest(thing=repr(thing)[:60]):
                    self.assertEqual(fault(thing), -1)
        for thing in ([0], [">", 0, 0], "0", ">", None, 0, {0: 0}):
            self.assertEqual(fault(thing), -1)

    def test_how_many_words(self):
        self.assertEqual(fault(()), -1)
        # Whole kinds have odd numbers of words, so those with 4000 words always have a fault.
        self.assertEqual((len(long_kind(2000)), fault(long_kind(2000))), (3999, None))
        self.assertEqual(fault(long_kind(2000) + (0,)), 3999)
        self.assertEqual(fault((">",) + long_kind(2000)), 4000)
        self.assertEqual(fault(long_kind(2001)), -1)
        self.assertEqual(fault((0,) * 4000), 1)
        self.assertEqual(fault((0,) * 4001), -1)
        self.assertEqual(fault((">",) * 4000), 4000)
        self.assertEqual(fault((">",) * 4001), -1)
        self.assertEqual(fault((None,) * 4000), 0)
        self.assertEqual(fault((None,) * 4001), -1)

    def test_items_that_are_no_words(self):
        wrong = [thing for thing in things() if isinstance(thing, bool) or not isinstance(thing, int)]
        wrong += [-1, -GREAT, True, False, "", ">>", "> ", " >", "a", "0", b">", None, [">"], (">",), (0,)]
        for thing in wrong:
            with self.subTest(thing=repr(thing)[:60]):
                self.assertEqual(fault((thing,)), 0)
                self.assertEqual(fault((">", 0, thing)), 2)
                self.assertEqual(fault((">", thing, 0, None)), 1)
        self.assertEqual(fault((">", True, False)), 1)

    def test_words_too_many_or_too_few(self):
        self.assertEqual(fault((0, 0)), 1)
        self.assertEqual(fault((0, ">")), 1)
        self.assertEqual(fault((">",)), 1)
        self.assertEqual(fault((">", 0)), 2)
        self.assertEqual(fault((">", 0, 1, 2, 3)), 3)
        self.assertEqual(fault((">", ">", 0, 1)), 4)
        self.assertEqual(fault((">", ">", 0, 1, 2, ">")), 5)

    def test_order_of_the_faults(self):
        self.assertEqual(fault((0, 0, -1)), 2)
        self.assertEqual(fault((">", 0, True)), 2)
        self.assertEqual(fault((">", ">", 0, "")), 3)
        self.assertEqual(fault((0, 0, -1, None)), 2)

    def test_all_short_rows_of_words(self):
        for length in range(1, 8):
            for words in product((">", 0, 1), repeat=length):
                self.assertEqual(fault(words), wanted_fault(words), words)

    def test_an_error_is_a_kind_error(self):
        with self.assertRaises(KindError):
            Kind(())


class EqualityTest(unittest.TestCase):

    def test_equal_words(self):
        for words in SMALL[:200]:
            self.assertIs(Kind(words) == Kind(tuple(list(words))), True)
            self.assertIs(Kind(words) != Kind(tuple(list(words))), False)
        self.assertTrue(Kind(long_kind(2000)) == Kind(long_kind(2000)))

    def test_other_words(self):
        for words, others in product(SMALL[:60], repeat=2):
            self.assertIs(Kind(words) == Kind(others), words == others)
        self.assertFalse(Kind((0,)) == Kind((1,)))
        self.assertFalse(Kind((">", 0, 1)) == Kind((">", 1, 0)))

    def test_nothing_of_another_class(self):
        kind = Kind((0,))
        others = [thing for thing in things() if not isinstance(thing, Kind)]
        for other in others + [Program(("x",)), (0,), [0], 0, None, "0", [kind], (kind,), BadKind(0)]:
            with self.subTest(other=repr(other)[:60]):
                self.assertFalse(kind == other)
                self.assertFalse(other == kind)
                self.assertTrue(kind != other)


class LettersTest(unittest.TestCase):

    def test_numbered(self):
        self.assertEqual(numbered(Kind((7,))).words, (0,))
        self.assertEqual(numbered(Kind((">", 1, 0))).words, (">", 0, 1))
        self.assertEqual(numbered(Kind((">", ">", 5, GREAT, ">", GREAT, 5))).words, (">", ">", 0, 1, ">", 1, 0))
        self.assertEqual(numbered(Kind((">", 2, ">", 0, ">", 1, 2))).words, (">", 0, ">", 1, ">", 2, 0))

    def test_numbered_small_kinds(self):
        for words in SMALL[:200]:
            self.assertEqual(numbered(Kind(words)).words, words)
            for turned in ((3, 0, 2, 1, 4), (GREAT, 11, 0, GREAT - 1, 1)):
                other = tuple(word if word == ">" else turned[word] for word in words)
                kind = Kind(other)
                self.assertEqual(numbered(kind).words, words)
                self.assertEqual(numbered(kind).words, numbered_words(other))
                self.assertEqual(kind.words, other)

    def test_numbered_long_kinds(self):
        words = long_kind(2000)
        turned = words[:1999] + tuple(GREAT - letter for letter in words[1999:])
        self.assertIsNone(first_unlike(numbered(Kind(turned)).words, words))
        alike = Kind(words[:1999] + (GREAT,) * 2000)
        self.assertIsNone(first_unlike(numbered(alike).words, words[:1999] + (0,) * 2000))

    def test_sides(self):
        self.assertEqual(sides(Kind((0,))), (True,))
        self.assertEqual(sides(Kind((">", 0, 0))), (False, True))
        self.assertEqual(sides(Kind((">", ">", 0, 1, ">", 0, 1))), (True, False, False, True))
        self.assertEqual(sides(Kind((">", ">", ">", 0, 1, 2, 3))), (False, True, False, True))
        for words in SMALL:
            told = sides(Kind(words))
            self.assertIs(type(told), tuple)
            self.assertEqual(told, tuple(sides_of(tree(words))))
            self.assertEqual({type(side) for side in told}, {bool})

    def test_sides_of_long_kinds(self):
        # The first letter lies in 1999 lefts, the second one in 1998, and so on.
        wanted = (False,) + tuple(lefts % 2 == 0 for lefts in range(1998, -1, -1))
        self.assertIsNone(first_unlike(sides(Kind(long_kind(2000))), wanted))
        row = tuple(word for letter in range(1999) for word in (">", letter)) + (0,)
        self.assertIsNone(first_unlike(sides(Kind(row)), (False,) * 1999 + (True,)))


class EvenTest(unittest.TestCase):

    def test_some_kinds(self):
        for words in ((">", 0, 0), (">", GREAT, GREAT), (">", ">", 0, 1, ">", 0, 1), (">", ">", ">", 4, 4, 2, 2)):
            self.assertIs(is_even(Kind(words)), True)

    def test_a_letter_once_or_more_often(self):
        for words in ((0,), (">", 0, 1), (">", 0, ">", 0, 0), (">", 0, ">", 1, 0), (">", ">", 0, 0, ">", 0, 0),
                      (">", ">", 0, 0, ">", 1, 2), (">", ">", 0, 0, ">", 0, 1)):
            self.assertIs(is_even(Kind(words)), False)

    def test_a_letter_twice_on_one_side(self):
        for words in ((">", ">", 0, 1, 0), (">", 0, ">", 0, ">", 1, 1), (">", ">", 0, 1, ">", 1, 0),
                      (">", ">", 0, ">", 0, 1, 1), (">", ">", 0, 1, ">", ">", 0, 1, 2)):
            self.assertIs(is_even(Kind(words)), False)

    def test_small_kinds(self):
        told = [words for words in SMALL + kinds_with(6)[::3] if is_even(Kind(words))]
        self.assertEqual(told, [words for words in SMALL + kinds_with(6)[::3] if even_by_trees(words)])
        for places in range(1, 6):
            told = [words for words in kinds_with(places) if is_even(Kind(words))]
            self.assertEqual(sorted(told, key=str), sorted(even_kinds(places), key=str))

    def test_long_kinds(self):
        selves = (">", 0, 0)
        for letter in range(1, 1000):
            selves = (">",) + selves + (">", letter, letter)
        self.assertEqual(len(selves), 3999)
        self.assertIs(is_even(Kind(selves)), True)
        self.assertIs(is_even(Kind(selves[:-1] + (0,))), False)
        self.assertIs(is_even(Kind(selves[:-2] + (2, 999))), False)
        self.assertIs(is_even(Kind(long_kind(2000))), False)

    def test_any_object_is_judged(self):
        for thing in things():
            if not isinstance(thing, Kind):
                with self.subTest(thing=repr(thing)[:60]):
                    self.assertIs(is_even(thing), False)


if __name__ == "__main__":
    unittest.main()
