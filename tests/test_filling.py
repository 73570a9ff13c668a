"""[3.3] Kinds that are put in the places of letters, and what two kinds have in common."""

import unittest
from itertools import product

from oncekinds.errors import KindError, NoFillings, TooMany
from oncekinds.filling import common, filled, filling, given_kind
from oncekinds.kinds import Kind
from oncekinds.programs import Program
from tests.kind_trees import common_words, fillings_by_trees, given_words, kinds_with
from tests.samples import first_unlike, things

SMALL = [words for places in range(1, 5) for words in kinds_with(places)]
GREAT = 10 ** 39


def kinds(table):
    """Return a dict from letters to Kinds of words."""
    return {letter: Kind(words) for letter, words in table.items()}


def words_in(table):
    """Return a dict from letters to words of Kinds, or None for None."""
    return None if table is None else {letter: kind.words for letter, kind in table.items()}


def told(kind):
    """Return the words of a Kind, or None for None."""
    return None if kind is None else kind.words


def laid_in(words, table):
    """Return words with others in the place of letters, one word at a time."""
    row = ()
    for word in words:
        row += table[word] if word in table else (word,)
    return row


def row_of(lefts, last=(0,)):
    """Return the words of a kind that has these words one behind another as lefts, and the last ones."""
    return tuple(word for left in lefts for word in (">",) + left) + last


def zeros(places):
    """Return the words of a kind with so many places of letters, all of them 0."""
    return row_of([(0,)] * (places - 1))


def chain(many, end=(0,)):
    """Return two kinds of which what is common doubles so many times, each left being the pair of the one ahead.

    The one says that what its lefts are is said again, the other one that each is
    the pair of what was said ahead of it. Letter `at` becomes that one which
    doubled so many times; letter 0 of the first is the end of both its rows.
    """
    row = [(at,) for at in range(1, many + 1)]
    pairs = [(">", at, at) for at in range(1, many + 1)]
    after = [(at,) for at in range(2, many + 2)]
    return (">",) + row_of(row) + row_of(row, end), (">",) + row_of(pairs) + row_of(after)


def places_in(words):
    """Return how many places of letters there are."""
    return sum(word != ">" for word in words)


class FilledTest(unittest.TestCase):

    def test_some_fillings(self):
        kind = Kind((">", 0, ">", 1, 0))
        self.assertEqual(filled(kind, kinds({0: (">", 7, 7)})).words, (">", ">", 7, 7, ">", 1, ">", 7, 7))
        self.assertEqual(filled(kind, kinds({1: (2,)})).words, (">", 0, ">", 2, 0))
        self.assertEqual(filled(kind, {}).words, kind.words)
        self.assertEqual(filled(kind, kinds({5: (">", 0, 0), GREAT: (3,)})).words, kind.words)

    def test_all_at_once(self):
        # A letter of a filling isn't filled again, nor is it told apart from letters that stay.
        kind = Kind((">", 0, ">", 1, 2))
        self.assertEqual(filled(kind, kinds({0: (1,), 1: (0,)})).words, (">", 1, ">", 0, 2))
        self.assertEqual(filled(kind, kinds({0: (">", 0, 1), 1: (">", 0, 2)})).words,
                         (">", ">", 0, 1, ">", ">", 0, 2, 2))
        self.assertEqual(filled(Kind((0,)), kinds({0: (">", 0, 0)})).words, (">", 0, 0))

    def test_small_kinds(self):
        for words in SMALL:
            for table in ({0: (">", 1, 0)}, {1: (0,), 0: (1,)}, {0: (">", ">", 3, 1, 0), 2: (GREAT,), 3: (0,)}):
                fillings = kinds(table)
                kind = Kind(words)
                self.assertEqual(filled(kind, fillings).words, laid_in(words, table))
                self.assertEqual(filled(kind, fillings), filled(kind, fillings))
                self.assertEqual((kind.words, words_in(fillings)), (words, table))

    def test_no_dict(self):
        for thing in things() + [[(0, Kind((0,)))], [Kind((0,))], Kind((0,)), ((0, Kind((0,))),), "", ()]:
            if thing != {}:
                self.check_refused(thing)

    def test_keys_that_are_no_letters(self):
        for thing in ["0", ">", "", None, -1, -GREAT, (0,), (), b"0", ..., len, int, Kind, object(), KindError()]:
            self.check_refused({thing: Kind((0,))})
            self.check_refused({0: Kind((0,)), thing: Kind((0,))})

    def test_values_that_are_no_kinds(self):
        for thing in things() + [(0,), 0, [Kind((0,))], Program(("x",)), (Kind((0,)),)]:
            if not isinstance(thing, Kind):
                self.check_refused({0: thing})
                self.check_refused({0: Kind((0,)), 9: thing})

    def check_refused(self, thing):
        """Check that a thing is refused as fillings, also where there would be too many words."""
        for kind in (Kind((">", 0, 1)), Kind((5,))):
            with self.subTest(thing=repr(thing)[:60]):
                with self.assertRaises(NoFillings) as caught:
                    filled(kind, thing)
                self.assertIsInstance(caught.exception, KindError)

    def test_too_many_comes_last(self):
        wide = Kind(zeros(2000))
        with self.assertRaises(NoFillings):
            filled(wide, {0: wide, 1: None})
        with self.assertRaises(TooMany):
            filled(wide, {0: wide, 1: wide})

    def test_just_too_many(self):
        # A kind has an odd number of words, so 99999 are the most.
        kind, wide = Kind(row_of([(0,)] * 25, (1,))), Kind(zeros(1990))
        most = filled(kind, {0: wide, 1: Kind(zeros(250))})
        self.assertEqual(len(most.words), 99999)
        self.assertIsNone(first_unlike(most.words, row_of([zeros(1990)] * 25, zeros(250))))
        with self.assertRaises(TooMany) as caught:
            filled(kind, {0: wide, 1: Kind(zeros(251))})
        self.assertEqual(caught.exception.most, 100000)
        self.assertIsInstance(caught.exception, KindError)
        # What has so many words may be passed on, and is no less let through.
        self.assertEqual(filled(most, {}), most)
        self.assertEqual(len(filled(most, {0: Kind((7,)), 5: most}).words), 99999)
        with self.assertRaises(TooMany):
            filled(Kind((">", 0, 1)), {0: most})
        self.assertEqual(filled(Kind((0,)), {0: most}), most)


class FillingTest(unittest.TestCase):

    def test_some_kinds(self):
        kind = Kind((">", 4, ">", 1, 4))
        self.assertEqual(words_in(filling(kind, Kind((">", ">", 0, 0, ">", 7, ">", 0, 0)))), {4: (">", 0, 0), 1: (7,)})
        self.assertEqual(words_in(filling(kind, kind)), {4: (4,), 1: (1,)})
        self.assertEqual(words_in(filling(Kind((0,)), kind)), {0: kind.words})
        self.assertIsNone(filling(kind, Kind((0,))))
        self.assertIsNone(filling(kind, Kind((">", 0, 0))))
        self.assertIsNone(filling(kind, Kind((">", 0, ">", 0, 1))))
        self.assertIsNone(filling(kind, Kind((">", ">", 0, 1, ">", 7, ">", 0, 0))))

    def test_small_kinds(self):
        for words, others in product(SMALL, repeat=2):
            kind, other = Kind(words), Kind(others)
            found = filling(kind, other)
            self.assertEqual(words_in(found), fillings_by_trees(words, others), (words, others))
            if found is not None:
                self.assertIs(type(found), dict)
                self.assertEqual(filled(kind, found), other)
            self.assertEqual((kind.words, other.words), (words, others))

    def test_each_letter_is_in_it(self):
        for words in SMALL:
            fillings = kinds({0: (">", GREAT, 0), 1: (2,), 2: (">", 0, 0), 3: (3,), 9: (4,)})
            wanted = {letter: kind.words for letter, kind in fillings.items() if letter in words}
            self.assertEqual(words_in(filling(Kind(words), filled(Kind(words), fillings))), wanted)

    def test_a_new_dict_each_time(self):
        kind, other = Kind((">", 0, 1)), Kind((">", ">", 2, 2, 3))
        one = filling(kind, other)
        one.clear()
        self.assertEqual(words_in(filling(kind, other)), {0: (">", 2, 2), 1: (3,)})


class CommonTest(unittest.TestCase):

    def test_some_kinds(self):
        self.assertEqual(told(common(Kind((5,)), Kind((7,)))), (0,))
        self.assertEqual(told(common(Kind((5,)), Kind((">", 5, 3)))), (">", 0, 1))
        self.assertEqual(told(common(Kind((">", 0, 0)), Kind((">", ">", 1, 2, 3)))), (">", ">", 0, 1, ">", 0, 1))
        self.assertEqual(told(common(Kind((">", 0, ">", 0, 1)), Kind((">", ">", 0, 0, 1)))),
                         (">", ">", 0, 0, ">", ">", 0, 0, 1))

    def test_letters_of_the_one_are_none_of_the_other(self):
        # If the letters were the same ones, each of these would have nothing in common, or less.
        self.assertEqual(told(common(Kind((0,)), Kind((">", 0, 0)))), (">", 0, 0))
        self.assertEqual(told(common(Kind((">", 0, 1)), Kind((">", 1, 0)))), (">", 0, 1))
        self.assertEqual(told(common(Kind((">", 0, 1)), Kind((">", 1, ">", 0, 2)))), (">", 0, ">", 1, 2))
        self.assertEqual(told(common(Kind((">", 0, ">", 1, 1)), Kind((">", 1, 0)))), (">", 0, ">", 1, 1))

    def test_a_letter_within_what_is_put_for_it(self):
        for words, others in [((">", 0, 0), (">", ">", 1, 2, 1)), ((">", 0, 0), (">", 0, ">", 0, 0)),
                              ((">", 0, ">", 0, 1), (">", ">", 0, 1, ">", ">", 1, ">", 0, 0, 0)),
                              ((">", ">", 0, 1, ">", 1, 0), (">", ">", 0, ">", 0, 0, ">", 1, 1))]:
            self.assertIsNone(common_words(words, others))
            self.assertIsNone(common(Kind(words), Kind(others)))
            self.assertIsNone(common(Kind(others), Kind(words)))

    def test_small_kinds(self):
        for words, others in product(SMALL, repeat=2):
            kind, other = Kind(words), Kind(others)
            self.assertEqual(told(common(kind, other)), common_words(words, others), (words, others))
            self.assertEqual((kind.words, other.words), (words, others))

    def test_greater_kinds(self):
        rows = kinds_with(5)[::13] + kinds_with(6)[::223]
        for words, others in product(rows, repeat=2):
            self.assertEqual(told(common(Kind(words), Kind(others))), common_words(words, others), (words, others))

    def test_it_is_the_widest_one(self):
        rows = [words for places in range(1, 4) for words in kinds_with(places)]
        for words, others in product(rows, repeat=2):
            kind, other = Kind(words), Kind(others)
            found = common(kind, other)
            for third in SMALL:
                both = filling(kind, Kind(third)) is not None and filling(other, Kind(third)) is not None
                self.assertEqual(both, found is not None and filling(found, Kind(third)) is not None)

    def test_other_letters_change_nothing(self):
        turned = {0: 3, 1: GREAT, 2: 0, 3: 1}
        for words, others in product(SMALL[::3], SMALL[::2]):
            again = tuple(turned.get(word, word) for word in words)
            self.assertEqual(told(common(Kind(again), Kind(others))), common_words(words, others))
            self.assertEqual(told(common(Kind(others), Kind(again))), common_words(words, others))

    def test_just_too_many(self):
        one = row_of([(0,)] * 50, (1,))
        for places in (500, 501):
            other = row_of([zeros(990)] + [(letter,) for letter in range(1, 50)], zeros(places))
            if places == 500:
                kind = common(Kind(one), Kind(other))
                self.assertEqual(len(kind.words), 99999)
                self.assertIsNone(first_unlike(kind.words, row_of([zeros(990)] * 50, zeros(500))))
                # Both ways the same is told, and it is what it has in common with itself.
                self.assertEqual(common(Kind(other), Kind(one)), kind)
                self.assertEqual(common(kind, kind), kind)
            else:
                self.check_too_many(common, Kind(one), Kind(other))
                self.check_too_many(common, Kind(other), Kind(one))

    def check_too_many(self, function, kind, other):
        """Check that a function of two kinds raises TooMany."""
        with self.assertRaises(TooMany) as caught:
            function(kind, other)
        self.assertEqual(caught.exception.most, 100000)

    def test_what_doubles(self):
        for many in range(1, 6):
            one, other = chain(many)
            self.assertEqual(told(common(Kind(one), Kind(other))), common_words(one, other))
        for many in range(1, 14):
            one, other = chain(many)
            kind = common(Kind(one), Kind(other))
            self.assertEqual(places_in(kind.words), 2 ** (many + 2) - 2)
            self.assertIsNotNone(filling(Kind(one), kind))
            self.assertIsNotNone(filling(Kind(other), kind))
        for many in (14, 15, 64, 300, 600):
            one, other = chain(many)
            self.check_too_many(common, Kind(one), Kind(other))
            self.check_too_many(common, Kind(other), Kind(one))

    def test_what_doubles_and_lies_within_itself(self):
        for many in (1, 3, 14, 300, 600):
            one, other = chain(many, (">", 0, 0))
            if many < 5:
                self.assertIsNone(common_words(one, other))
            self.assertIsNone(common(Kind(one), Kind(other)))
            self.assertIsNone(common(Kind(other), Kind(one)))


class GivenKindTest(unittest.TestCase):

    def test_some_kinds(self):
        self.assertIsNone(given_kind(Kind((0,)), Kind((0,))))
        self.assertIsNone(given_kind(Kind((0,)), Kind((">", 0, 0))))
        self.assertEqual(told(given_kind(Kind((">", 0, 0)), Kind((">", 7, 7)))), (">", 0, 0))
        self.assertEqual(told(given_kind(Kind((">", 0, 1)), Kind((0,)))), (0,))
        # [f] [x] (f x) given [y] y.
        self.assertEqual(told(given_kind(Kind((">", ">", 0, 1, ">", 0, 1)), Kind((">", 0, 0)))), (">", 0, 0))
        self.assertIsNone(given_kind(Kind((">", ">", 0, 0, 0)), Kind((">", 0, ">", 0, 0))))
        self.assertIsNone(given_kind(Kind((">", ">", 0, 0, 1)), Kind((">", ">", 0, 1, 0))))

    def test_letters_of_the_one_are_none_of_the_other(self):
        self.assertEqual(told(given_kind(Kind((">", 0, 1)), Kind((1,)))), (0,))
        self.assertEqual(told(given_kind(Kind((">", 0, ">", 1, 0)), Kind((">", 0, 1)))), (">", 0, ">", 1, 2))
        self.assertEqual(told(given_kind(Kind((">", ">", 0, 1, ">", 0, 1)), Kind((">", 1, 0)))), (">", 0, 1))

    def test_small_kinds(self):
        for words, others in product(SMALL, repeat=2):
            kind, other = Kind(words), Kind(others)
            self.assertEqual(told(given_kind(kind, other)), given_words(words, others), (words, others))
            self.assertEqual((kind.words, other.words), (words, others))

    def test_greater_kinds(self):
        rows = kinds_with(5)[::13] + kinds_with(6)[::223]
        for words, others in product(rows, repeat=2):
            self.assertEqual(told(given_kind(Kind(words), Kind(others))), given_words(words, others), (words, others))

    def test_just_too_many(self):
        for places in (250, 251):
            ones = tuple(word if word == ">" else 1 for word in zeros(places))
            kind = Kind((">", 0) + row_of([(0,)] * 25, ones))
            if places == 250:
                told_kind = given_kind(kind, Kind(zeros(1990)))
                self.assertEqual(len(told_kind.words), 99999)
                self.assertEqual(places_in(told_kind.words), 50000)
            else:
                CommonTest.check_too_many(self, given_kind, kind, Kind(zeros(1990)))

    def test_what_is_told_alone_counts(self):
        for many in (1, 5, 300, 600):
            one, other = chain(many)
            for letter in range(min(many, 14) + 1):
                found = given_kind(Kind((">",) + one + (letter,)), Kind(other))
                self.assertEqual(places_in(found.words), 2 ** letter)
                self.assertEqual(max(word for word in found.words if word != ">"), 0)
            for letter in range(16, many + 1, 97):
                CommonTest.check_too_many(self, given_kind, Kind((">",) + one + (letter,)), Kind(other))
            self.assertEqual(told(given_kind(Kind((">",) + one + (GREAT,)), Kind(other))), (0,))

    def test_nothing_is_told_if_something_lies_within_itself(self):
        for many in (1, 5, 300, 600):
            one, other = chain(many, (">", 0, 0))
            for last in (0, many, GREAT):
                self.assertIsNone(given_kind(Kind((">",) + one + (last,)), Kind(other)))


if __name__ == "__main__":
    unittest.main()
