"""[0.3] and [0.5]: kinds whose lefts lie deep, and those that are greater than Kind lets through."""

import unittest

from oncekinds.errors import BadKind
from oncekinds.filling import common, filled, filling, given_kind
from oncekinds.kinds import Kind, is_even, numbered, sides
from tests.kind_shapes import KIND_SHAPES, lefts, letters_by_turns, rights
from tests.low import LowTest
from tests.samples import first_unlike


class DeepTest(LowTest):

    def test_kinds_alone(self):
        for shape in KIND_SHAPES:
            kind = Kind(shape(list(range(2000))))
            self.assertEqual(len(kind.words), 3999)
            self.assertEqual(numbered(numbered(kind)), numbered(kind))
            self.assertEqual(len(sides(kind)), 2000)
            self.assertIs(is_even(kind), False)

    def test_even_ones(self):
        # Of the letters within lefts each lies in one left less than the one ahead, so on the other side.
        pairs = [letter for letter in range(1000) for _ in range(2)]
        self.assertIs(is_even(Kind(lefts(pairs))), True)
        self.assertIs(is_even(Kind(lefts([0] + pairs[:-1]))), False)
        self.assertIs(is_even(Kind(rights(pairs))), False)
        self.assertIs(is_even(Kind(letters_by_turns([0] * 2000))), False)

    def test_faults_that_lie_deep(self):
        for shape in KIND_SHAPES:
            words = shape(list(range(2000)))
            for wrong, index in ((None, words.index(1000)), (True, words.index(1000))):
                with self.assertRaises(BadKind) as caught:
                    Kind(words[:index] + (wrong,) + words[index + 1:])
                self.assertEqual(caught.exception.index, index)
            with self.assertRaises(BadKind) as caught:
                Kind(words[:-1])
            self.assertEqual(caught.exception.index, 3998)

    def test_filled_and_filling(self):
        for shape in KIND_SHAPES:
            words = shape(list(range(2000)))
            kind = Kind(words)
            table = {letter: Kind((letter + 7,)) for letter in range(0, 2000, 3)}
            told = filled(kind, table)
            wanted = tuple(word + 7 if word != ">" and word % 3 == 0 else word for word in words)
            self.assertIsNone(first_unlike(told.words, wanted))
            found = filling(kind, told)
            self.assertEqual(sorted(found), list(range(2000)))
            self.assertTrue(all(found[letter] == Kind((letter + 7 * (letter % 3 == 0),)) for letter in found))
            self.assertIsNone(filling(kind, Kind((0,))))
            self.assertEqual(filling(Kind((0,)), kind), {0: kind})
            self.assertEqual(len(filled(Kind((">", 0, 0)), {0: kind}).words), 2 * 3999 + 1)

    def test_common(self):
        for shape in KIND_SHAPES:
            kind = Kind(shape(list(range(2000))))
            same = Kind(shape([0] * 2000))
            turned = Kind(shape(list(range(1999, -1, -1))))
            self.assertEqual(common(kind, kind), numbered(kind))
            self.assertEqual(common(kind, turned), numbered(kind))
            self.assertEqual(common(kind, same), same)
            self.assertEqual(common(Kind((0,)), kind), numbered(kind))
            self.assertEqual(len(common(Kind((">", 0, 1)), kind).words), 3999)
            self.assertIsNone(common(Kind(shape([0] * 1000)), Kind(shape([0] * 1001))))

    def test_given_kind(self):
        for shape in KIND_SHAPES:
            words = shape(list(range(1999)))
            kind = Kind(words)
            self.assertEqual(given_kind(Kind((">", 0, 0)), kind), numbered(kind))
            self.assertEqual(given_kind(Kind((">",) + words + (0,)), kind), Kind((0,)))
            self.assertEqual(given_kind(Kind((">", 1999) + words), kind), numbered(kind))
            self.assertEqual(given_kind(Kind((">",) + shape([0] * 1999) + (1,)), kind), Kind((0,)))
            self.assertIsNone(given_kind(Kind((">",) + shape([0] * 1000) + (0,)), Kind(shape([0] * 1001))))


class GreatTest(LowTest):

    def test_they_may_be_passed_on(self):
        for shape in KIND_SHAPES:
            kind = Kind(shape([5] * 2000))
            great = filled(Kind(shape(list(range(20)))), {letter: kind for letter in range(0, 20, 2)})
            self.assertEqual(len(great.words), 10 * 3999 + 10 + 19)
            with self.assertRaises(BadKind) as caught:
                Kind(great.words)
            self.assertEqual(caught.exception.index, -1)
            self.assertEqual(len(sides(great)), 20010)
            self.assertIs(is_even(great), False)
            self.assertEqual(len(numbered(great).words), len(great.words))
            self.assertEqual(common(great, great), numbered(great))
            self.assertEqual(common(great, Kind((0,))), numbered(great))
            twice = filled(Kind((">", 0, 0)), {0: numbered(great)})
            self.assertEqual(given_kind(Kind((">", 0, ">", 0, 0)), great), twice)
            self.assertEqual(filling(Kind((0,)), great), {0: great})
            self.assertEqual(sorted(filling(great, great)), sorted({word for word in great.words if word != ">"}))
            self.assertEqual(filled(great, {}), great)


if __name__ == "__main__":
    unittest.main()
