"""[3.2] and [3.3] The kinds at all places of a program, and whether a kind fits it."""

import unittest
from itertools import product

from oncekinds.errors import KindError, NoKind, TooMany
from oncekinds.filling import filled, filling, given_kind
from oncekinds.kinding import fits, is_kinding, kinding, widest
from oncekinds.kinds import Kind, is_even, numbered
from oncekinds.naming import applied, renamed, standard
from oncekinds.programs import Program, ends, open_names
from oncekinds.stepping import rest, stepped, steps
from tests.kind_trees import fillings_by_trees, joints_by_counting, kinding_words, kinds_with, numbered_words
from tests.samples import applied_row, first_unlike, fresh, selves, things
from tests.trees import programs_with

CLOSED = [words for givens in range(3) for words in programs_with(givens)]
OPEN = [words for names in (("p",), ("p", "q"), ("p", "q", "r")) for givens in range(3)
        for words in programs_with(givens, names)]
GREATER = programs_with(3)[::9] + programs_with(3, ("p",))[::31]
GREAT = 10 ** 39
FILLINGS = ({}, {0: (7,)}, {0: (">", 0, 0)}, {0: (1,), 1: (0,)}, {1: (">", 2, ">", 0, GREAT), 0: (">", ">", 1, 1, 1)},
            {0: (GREAT,), 1: (GREAT,), 2: (">", 3, 1), 3: (">", ">", 0, 0, 0)})


def words_in(kinds):
    """Return the list of the words of Kinds."""
    return [kind.words for kind in kinds]


def numbered_together(rows):
    """Return rows of words with the letters being 0, 1, .. as they come, row by row."""
    order = list(dict.fromkeys(word for row in rows for word in row if word != ">"))
    return [tuple(word if word == ">" else order.index(word) for word in row) for row in rows]


def kinding_by_rules(words, rows):
    """Tell whether rows of words keep both rules of a kinding."""
    return len(rows) == len(words) and all(
        rows[whole] == (">",) + rows[left] + rows[right] for whole, left, right in joints_by_counting(words))


def many_selves(parts):
    """Return the words of an open name that is given rows of programs that are selves, so many in each of the parts."""
    names = iter(fresh(sum(parts)))
    rows = [applied_row([("/" + name, name) for name in [next(names) for _ in range(many)]]) for many in parts]
    return applied_row([("p",)] + rows)


class KindingTest(unittest.TestCase):

    def test_some_programs(self):
        self.assertEqual(words_in(kinding(Program(("x",)))), [(0,)])
        self.assertEqual(words_in(kinding(Program(("/x", "x")))), [(">", 0, 0), (0,)])
        self.assertEqual(words_in(kinding(Program(("@", "x", "y")))), [(0,), (">", 1, 0), (1,)])
        self.assertEqual(words_in(kinding(Program(("@", "/x", "x", "/y", "y")))),
                         [(">", 0, 0), (">", ">", 0, 0, ">", 0, 0), (">", 0, 0), (">", 0, 0), (0,)])
        self.assertEqual(words_in(kinding(Program(("/f", "/x", "@", "f", "x")))),
                         [(">", ">", 0, 1, ">", 0, 1), (">", 0, 1), (1,), (">", 0, 1), (0,)])
        self.assertIs(type(kinding(Program(("x",)))), tuple)
        self.assertTrue(all(isinstance(kind, Kind) for kind in kinding(Program(("@", "x", "y")))))

    def test_letters_are_numbered_place_by_place(self):
        # y comes ahead of x, and what is open has letters of its own.
        self.assertEqual(words_in(kinding(Program(("/x", "@", "@", "y", "x", "z")))),
                         [(">", 0, 1), (1,), (">", 2, 1), (">", 0, ">", 2, 1), (0,), (2,)])

    def test_the_widest_by_trees(self):
        for words in CLOSED + OPEN + GREATER:
            self.assertEqual(words_in(kinding(Program(words))), kinding_words(words), words)

    def test_names_change_nothing(self):
        for words in OPEN[::3] + CLOSED[::3]:
            program = Program(words)
            names = sorted({word.lstrip("/") for word in words if word != "@"})
            other = renamed(program, dict(zip(names, reversed(fresh(len(names))))))
            self.assertEqual(kinding(other), kinding(program))
            self.assertEqual(kinding(standard(other)), kinding(program))
            self.assertEqual(program.words, words)

    def test_rows_of_selves(self):
        for many in range(1, 14):
            program = Program(applied_row(selves(many)))
            told = kinding(program)
            # The first of all has 2 ** many places of letters, each one behind it half as many.
            self.assertEqual(sum(len(kind.words) for kind in told), 2 ** (many + 3) - 3 * many - 9)
            self.assertIs(is_kinding(program, told), True)
            self.assertEqual({word for kind in told for word in kind.words}, {">", 0})
            if many < 7:
                self.assertEqual(words_in(told), kinding_words(program.words))

    def test_too_many(self):
        for many in (14, 15, 40, 200, 333):
            with self.assertRaises(TooMany) as caught:
                kinding(Program(applied_row(selves(many))))
            self.assertEqual(caught.exception.most, 100000)
            self.assertIsInstance(caught.exception, KindError)

    def test_just_too_many(self):
        for small in ([1], [2, 1], [3, 1, 2]):
            rows = kinding_words(many_selves(small))
            self.assertEqual(self.words_of_many_selves(small), sum(len(row) for row in rows))
        most, more = [13, 12, 4, 4, 6, 6, 6], [13, 12, 2, 2, 2, 4, 6, 7]
        self.assertEqual((self.words_of_many_selves(most), self.words_of_many_selves(more)), (100000, 100001))
        told = kinding(Program(many_selves(most)))
        self.assertEqual(sum(len(kind.words) for kind in told), 100000)
        with self.assertRaises(TooMany) as caught:
            kinding(Program(many_selves(more)))
        self.assertEqual(caught.exception.most, 100000)

    def words_of_many_selves(self, parts):
        """Return how many words the kinds of all places of many_selves have in all."""
        within = sum(2 ** (many + 3) - 3 * many - 9 for many in parts)
        # Each given and the open name have a left of three words for each of the parts that they are still given.
        return within + sum(1 + 4 * left for left in range(len(parts) + 1))


class IsKindingTest(unittest.TestCase):

    def judged(self, program, thing):
        """Return what is_kinding says of a thing; it must be a flag."""
        told = is_kinding(program, thing)
        self.assertIs(type(told), bool)
        return told

    def test_fillings_of_the_widest_are_kindings(self):
        for words in CLOSED + OPEN[::3]:
            program = Program(words)
            for table in FILLINGS:
                fillings = {letter: Kind(row) for letter, row in table.items()}
                told = tuple(filled(kind, fillings) for kind in kinding(program))
                self.assertTrue(self.judged(program, told))
                self.assertTrue(self.judged(renamed(program, {
                    name: name + "z" for name in {word.lstrip("/") for word in words if word != "@"}}), told))

    def test_one_kind_changed(self):
        for words in CLOSED[::4] + OPEN[::9]:
            program = Program(words)
            told = kinding(program)
            for at, kind in enumerate(told):
                for other in self.changed(kind):
                    thing = told[:at] + (other,) + told[at + 1:]
                    self.assertIs(self.judged(program, thing), kinding_by_rules(words, words_in(thing)), words)

    def changed(self, kind):
        """Return Kinds that are others than a kind by a word or two."""
        rows = [kind.words[:at] + (9,) + kind.words[at + 1:] for at, word in enumerate(kind.words) if word != ">"]
        rows += [(">",) + kind.words + (0,), (">", 0) + kind.words, (9,), (0,), (1,), (">", 0, 0)]
        return [Kind(row) for row in rows]

    def test_all_rows_of_small_kinds(self):
        rows = [(0,), (1,), (">", 0, 0), (">", 0, 1), (">", ">", 0, 1, 1), (">", ">", 0, 1, ">", 0, 1)]
        for words in [("x",), ("/x", "x"), ("@", "x", "y"), ("/x", "@", "x", "y"), ("@", "/x", "x", "y"),
                      ("/x", "/y", "@", "x", "y")]:
            some = 0
            for choice in product(rows, repeat=len(words)):
                right = kinding_by_rules(words, choice)
                some += right
                self.assertIs(self.judged(Program(words), tuple(Kind(row) for row in choice)), right)
            self.assertGreater(some, 0)

    def test_exchanged_left_out_or_too_many(self):
        for words in CLOSED[::3] + OPEN[::7]:
            program = Program(words)
            told = kinding(program)
            for at, other in product(range(len(told)), repeat=2):
                row = list(told)
                row[at], row[other] = row[other], row[at]
                self.assertIs(self.judged(program, tuple(row)), kinding_by_rules(words, words_in(row)))
            for at in range(len(told)):
                self.assertFalse(self.judged(program, told[:at] + told[at + 1:]))
                self.assertFalse(self.judged(program, told[:at] + told[at:at + 1] + told[at:]))
            self.assertFalse(self.judged(program, told + (Kind((0,)),)))

    def test_any_object_is_judged(self):
        program = Program(("/x", "@", "x", "y"))
        told = kinding(program)
        self.assertFalse(self.judged(program, list(told)))
        self.assertFalse(self.judged(program, told[0]))
        self.assertFalse(self.judged(program, tuple(words_in(told))))
        for thing in things():
            with self.subTest(thing=repr(thing)[:60]):
                self.assertFalse(self.judged(program, thing))
                for at in range(len(told)):
                    if not isinstance(thing, Kind):
                        self.assertFalse(self.judged(program, told[:at] + (thing,) + told[at + 1:]))
                if not isinstance(thing, Kind):
                    self.assertFalse(self.judged(Program(("x",)), (thing,)))
        self.assertTrue(self.judged(Program(("x",)), (Kind((GREAT,)),)))


class WidestTest(unittest.TestCase):

    def test_some_programs(self):
        self.assertEqual(widest(Program(("x",))).words, (0,))
        self.assertEqual(widest(Program(("/x", "x"))).words, (">", 0, 0))
        self.assertEqual(widest(Program(("@", "@", "x", "y", "z"))).words, (0,))
        self.assertEqual(widest(Program(("/f", "/x", "@", "f", "x"))).words, (">", ">", 0, 1, ">", 0, 1))
        self.assertEqual(widest(Program(("/x", "/y", "@", "y", "x"))).words, (">", 0, ">", ">", 0, 1, 1))

    def test_by_trees(self):
        for words in CLOSED + OPEN + GREATER:
            self.assertEqual(widest(Program(words)).words, numbered_words(kinding_words(words)[0]))
            self.assertEqual(widest(Program(words)), numbered(kinding(Program(words))[0]))

    def test_long_rows_of_selves(self):
        for many in (1, 2, 13, 14, 100, 333):
            self.assertEqual(widest(Program(applied_row(selves(many)))).words, (">", 0, 0))

    def test_the_second_fact(self):
        for words in CLOSED + programs_with(3)[::3]:
            self.assertTrue(is_even(widest(Program(words))))
        for words in CLOSED + OPEN + GREATER:
            program = Program(words)
            told = words_in(kinding(program))
            for place in steps(program):
                middle, end = ends(program)[place + 1], ends(program)[place]
                stand = words.index(words[place + 1][1:])
                stay = (told[:place] + told[place + 2:stand] + told[middle:end]
                        + told[stand + 1:middle] + told[end:])
                after = stepped(program, place)
                self.assertEqual(words_in(kinding(after)), numbered_together(stay))
                self.assertEqual(widest(after), widest(program))
            self.assertEqual(widest(rest(program)), widest(program))


class FitsTest(unittest.TestCase):

    def test_fillings_of_the_widest_fit(self):
        for words in CLOSED + OPEN[::3]:
            program = Program(words)
            self.assertIs(fits(program, widest(program)), True)
            for table in FILLINGS:
                kind = filled(widest(program), {letter: Kind(row) for letter, row in table.items()})
                self.assertIs(fits(program, kind), True)

    def test_all_small_kinds(self):
        kinds = [words for places in range(1, 5) for words in kinds_with(places)]
        for words in CLOSED[::5] + OPEN[::9] + [("/x", "x"), ("x",)]:
            program = Program(words)
            wide = widest(program).words
            for row in kinds:
                self.assertIs(fits(program, Kind(row)), fillings_by_trees(wide, row) is not None, (words, row))

    def test_the_widest_with_a_word_changed(self):
        for words in CLOSED[::3]:
            program = Program(words)
            wide = widest(program).words
            for at, word in enumerate(wide):
                if word != ">":
                    for other in ((9,), (0,), (">", 0, 0)):
                        row = wide[:at] + other + wide[at + 1:]
                        self.assertIs(fits(program, Kind(row)), fillings_by_trees(wide, row) is not None)
            self.assertIs(fits(program, Kind((0,))), False)

    def test_no_kind(self):
        for words in (("x",), ("/x", "x")):
            for thing in things() + [(0,), (">", 0, 0), Program(("x",)), None, True, [Kind((0,))], ">"]:
                if not isinstance(thing, Kind):
                    with self.subTest(thing=repr(thing)[:60]):
                        with self.assertRaises(NoKind) as caught:
                            fits(Program(words), thing)
                        self.assertIsInstance(caught.exception, KindError)

    def test_behind_a_step_all_answers_stay(self):
        kinds = [words for places in range(1, 4) for words in kinds_with(places)]
        for words in CLOSED + OPEN[::2]:
            program = Program(words)
            for place in steps(program):
                after = stepped(program, place)
                for row in kinds:
                    self.assertIs(fits(after, Kind(row)), fits(program, Kind(row)))


class GivenKindTest(unittest.TestCase):

    def test_of_programs(self):
        some = CLOSED[:6] + CLOSED[6::4] + [words for words in OPEN[::5] if len(words) < 9]
        for words, others in product(some, repeat=2):
            program, other = Program(words), Program(others)
            if open_names(other):
                other = renamed(other, {name: "z" + name for name in {w.lstrip("/") for w in others if w != "@"}})
            told = given_kind(widest(program), widest(other))
            if widest(program).words == (0,):
                self.assertIsNone(told)
            else:
                self.assertEqual(told, widest(applied(program, other)))

    def test_it_hangs_on_the_kinds_alone(self):
        for words in CLOSED[::2]:
            program = Program(words)
            for place in steps(program):
                after = stepped(program, place)
                for others in CLOSED[::7]:
                    wide = widest(Program(others))
                    self.assertEqual(given_kind(widest(after), wide), given_kind(widest(program), wide))
                    self.assertEqual(given_kind(wide, widest(after)), given_kind(wide, widest(program)))

    def test_filling_leads_from_the_widest(self):
        for words in CLOSED:
            program = Program(words)
            wide = widest(program)
            kind = filled(wide, {letter: Kind((">", letter, letter)) for letter in range(4)})
            found = filling(wide, kind)
            self.assertEqual(filled(wide, found), kind)
            self.assertIsNone(first_unlike(sorted(found), sorted({word for word in wide.words if word != ">"})))


if __name__ == "__main__":
    unittest.main()
