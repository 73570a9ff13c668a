"""[4.1] and [4.2] Programs that are alike, and those that are alike for callers."""

import unittest
from itertools import product

from oncekinds.errors import KindError, NotClosed, TooMany
from oncekinds.filling import common, filling
from oncekinds.kinding import widest
from oncekinds.kinds import Kind, is_even
from oncekinds.likeness import alike, callers_alike, callers_kind, parting
from oncekinds.naming import applied, renamed, same
from oncekinds.programs import Program, takes
from oncekinds.stepping import rest, stepped, steps
from tests.kind_trees import common_words, even_kinds, fillings_by_trees, kinding_words, numbered_words
from tests.samples import applied_row, letterings, selves
from tests.trees import meaning, nameless, programs_with, reduced, right_words, tree_of

CLOSED = [words for givens in range(3) for words in programs_with(givens)]
GREATER = programs_with(3)[::9]
SELF = ("/z", "z")


def rest_by_trees(words):
    """Return the nameless tree of the rest."""
    return nameless(reduced(tree_of(words)[0]))


def widest_by_trees(words):
    """Return the words of the widest kind."""
    return numbered_words(kinding_words(words)[0])


def unlike_rests(rows):
    """Return programs of the rows, one for each of their rests but for names."""
    found = {}
    for words in rows:
        found.setdefault(rest_by_trees(words), Program(words))
    return list(found.values())


def other_names(program):
    """Return the program with all names told anew."""
    names = letterings(takes(program))
    words = tuple(word for word in program.words if word != "@")
    taken = [word[1:] for word in words if word[0] == "/"]
    return renamed(program, dict(zip(taken, reversed(["w" + name for name in names]))))


def told_apart(words):
    """Return words with each name told anew, so that nothing is shared."""
    return tuple(word if word == "@" else word[:-len(word.lstrip("/"))] + "y" + word.lstrip("/") for word in words)


def grown(words):
    """Return programs from which a step leads to these words."""
    taken = [word[1:] for word in words if word[0] == "/"]
    found = [("@",) + SELF + words]
    for name in taken:
        at = words.index(name)
        # A name is told by way of a self, and by way of another name that is given this one.
        found.append(words[:at] + ("@",) + SELF + (name,) + words[at + 1:])
        found.append(words[:at] + ("@", "/zz", "zz", name) + words[at + 1:])
    return found


class AlikeTest(unittest.TestCase):

    def judged(self, program, other):
        """Return what alike says, having looked at all that it must be in line with."""
        told = alike(program, other)
        self.assertIs(type(told), bool)
        self.assertIs(parting(program, other) is None, told)
        return told

    def test_some_programs(self):
        twice = Program(("/g", "@", "/u", "u", "g"))
        once = Program(("/f", "f"))
        given = Program(("/f", "/x", "@", "f", "x"))
        self.assertTrue(self.judged(twice, once))
        self.assertFalse(self.judged(once, given))
        self.assertFalse(self.judged(given, twice))
        self.assertEqual(parting(once, given), 1)
        self.assertEqual(parting(Program(("/x", "/y", "@", "x", "y")), Program(("/x", "/y", "@", "y", "x"))), 1)
        self.assertEqual(parting(Program(("/x", "@", "x", "/y", "y")), given), 2)
        # Three places that are the same ones, and only then the two that are turned about.
        rows = [("/a", "/b", "/c", "@", "@", "a", *row) for row in ("bc", "cb")]
        self.assertEqual([parting(Program(rows[0]), Program(row)) for row in rows], [None, 7])

    def test_all_small_ones_against_one_another(self):
        rests = {words: rest_by_trees(words) for words in CLOSED}
        kinds = {words: widest_by_trees(words) for words in CLOSED}
        for words, others in product(CLOSED, repeat=2):
            program, other = Program(words), Program(others)
            self.assertIs(self.judged(program, other), rests[words] == rests[others], (words, others))
            row = [at for at, (one, two) in enumerate(zip(kinds[words], kinds[others])) if one != two]
            self.assertEqual(parting(program, other), row[0] if row else None)
            self.assertEqual((program.words, other.words), (words, others))

    def test_how_many_rests(self):
        for givens, many in ((0, 1), (1, 3), (2, 26)):
            programs = [Program(words) for words in programs_with(givens) if not steps(Program(words))]
            self.assertEqual(len(programs), many)
            for at, program in enumerate(programs):
                for other in programs[at + 1:]:
                    self.assertFalse(self.judged(program, other))
        self.assertEqual(len(unlike_rests(CLOSED)), 1 + 3 + 26)

    def test_other_names_and_steps(self):
        for words in CLOSED + GREATER:
            program = Program(words)
            self.assertTrue(self.judged(program, program))
            self.assertTrue(self.judged(program, other_names(program)))
            self.assertTrue(self.judged(rest(program), other_names(program)))
            for place in steps(program):
                self.assertTrue(self.judged(program, stepped(program, place)))
                self.assertTrue(self.judged(stepped(program, place), program))

    def test_steps_taken_back(self):
        for words in CLOSED:
            for more in grown(words):
                self.assertTrue(self.judged(Program(words), Program(more)))
                for most in grown(told_apart(more)):
                    self.assertTrue(self.judged(Program(most), Program(words)))

    def test_names_of_the_words_do_not_count(self):
        # All closed programs of at most five words with two names.
        rows = [words for words in right_words(("@", "/x", "/y", "x", "y"), 5) if not any(
            word[0] not in "@/" and "/" + word not in words for word in words)]
        self.assertGreater(len(rows), 5)
        for words, others in product(rows, repeat=2):
            self.assertIs(self.judged(Program(words), Program(others)), rest_by_trees(words) == rest_by_trees(others))

    def test_alike_programs_have_the_same_rest(self):
        for words, others in product(CLOSED[::2], GREATER):
            program, other = Program(words), Program(others)
            self.assertIs(self.judged(program, other), same(rest(program), rest(other)))
            self.assertIs(self.judged(program, other), meaning(rest(program)) == meaning(rest(other)))


class NotClosedTest(unittest.TestCase):

    def test_each_that_is_not_closed(self):
        closed = Program(SELF)
        for words in (("x",), ("@", "x", "y"), ("/x", "@", "x", "y"), ("@", "/x", "x", "y")):
            program = Program(words)
            for function in (alike, parting, callers_kind, callers_alike):
                for pair in ((program, closed), (closed, program), (program, program)):
                    with self.assertRaises(NotClosed) as caught:
                        function(*pair)
                    self.assertIsInstance(caught.exception, KindError)


class CallersTest(unittest.TestCase):

    def told(self, program, other):
        """Return the words of callers_kind or None, having looked at all that it must be in line with."""
        kind = callers_kind(program, other)
        alike_too = callers_alike(program, other)
        self.assertIs(type(alike_too), bool)
        self.assertIs(alike_too, kind is not None)
        self.assertEqual(callers_kind(other, program), kind)
        return None if kind is None else kind.words

    def test_some_programs(self):
        once, given = Program(("/f", "f")), Program(("/f", "/x", "@", "f", "x"))
        self.assertEqual(self.told(once, given), (">", ">", 0, 1, ">", 0, 1))
        self.assertEqual(self.told(once, once), (">", 0, 0))
        self.assertIsNone(self.told(once, Program(("/x", "/y", "@", "y", "x"))))
        self.assertIsNone(self.told(given, Program(("/f", "/x", "@", "x", "f"))))

    def test_parts_filled_out(self):
        # f, then what takes x and gives it to f, then what takes y and gives it to this, each alike for callers.
        row = [("/f", "f"), ("/f", "/x", "@", "f", "x"), ("/f", "/x", "/y", "@", "@", "f", "x", "y"),
               ("/f", "/x", "/y", "/z", "@", "@", "@", "f", "x", "y", "z"), ("/f", "/x", "@", "f", "/y", "@", "x", "y")]
        kinds = [(">", 0, 0), (">", ">", 0, 1, ">", 0, 1), (">", ">", 0, ">", 1, 2, ">", 0, ">", 1, 2),
                 (">", ">", 0, ">", 1, ">", 2, 3, ">", 0, ">", 1, ">", 2, 3),
                 (">", ">", ">", 0, 1, 2, ">", ">", 0, 1, 2)]
        for one, other in product(range(4), repeat=2):
            self.assertEqual(self.told(Program(row[one]), Program(row[other])), kinds[max(one, other)])
        self.assertEqual(self.told(Program(row[0]), Program(row[4])), kinds[4])
        self.assertEqual(self.told(Program(row[1]), Program(row[4])), kinds[4])
        self.assertEqual(self.told(Program(row[2]), Program(row[4])),
                         (">", ">", ">", 0, 1, ">", 2, 3, ">", ">", 0, 1, ">", 2, 3))

    def test_the_fourth_fact(self):
        for words, others in product(CLOSED, repeat=2):
            kind, other = widest(Program(words)), widest(Program(others))
            both = common(kind, other)
            self.assertEqual(None if both is None else both.words, common_words(kind.words, other.words))
            wanted = both.words if is_even(both) else None
            self.assertEqual(self.told(Program(words), Program(others)), wanted)

    def test_some_even_kind_comes_of_both_just_then(self):
        evens = [words for places in (2, 4, 6) for words in even_kinds(places)]
        programs = unlike_rests(CLOSED)
        comes = {}
        for at, program in enumerate(programs):
            wide = widest(program).words
            comes[at] = {words for words in evens if fillings_by_trees(wide, words) is not None}
        alike_ones = 0
        for one, other in product(range(len(programs)), repeat=2):
            told = self.told(programs[one], programs[other])
            both = comes[one] & comes[other]
            if told is None:
                self.assertEqual(both, set())
            else:
                alike_ones += one != other
                self.assertTrue(is_even(Kind(told)))
                self.assertIsNotNone(filling(widest(programs[one]), Kind(told)))
                self.assertIsNotNone(filling(widest(programs[other]), Kind(told)))
                self.assertEqual(both, {words for words in evens if fillings_by_trees(told, words) is not None})
        self.assertGreater(alike_ones, 10)

    def test_other_names_and_steps(self):
        for words, others in product(CLOSED[::3], CLOSED[::5]):
            program, other = Program(words), Program(others)
            told = self.told(program, other)
            self.assertEqual(self.told(rest(program), other_names(other)), told)
            if alike(program, other):
                self.assertEqual(told, widest(program).words)

    def test_callers_get_what_is_alike(self):
        # Whoever is given the one or the other, or gives them something, comes to what is alike for callers.
        programs = unlike_rests(CLOSED)[:12]
        pairs = [(one, other) for one, other in product(programs, repeat=2) if callers_alike(one, other)]
        for (one, other), caller in product(pairs, programs):
            self.assertTrue(callers_alike(applied(caller, one), applied(caller, other)))
            self.assertTrue(callers_alike(applied(one, caller), applied(other, caller)))

    def test_what_doubles_is_not_even(self):
        # Each self that is given to the first name is of a kind twice as great as that of the next one.
        program = Program(("/a", "/b", "@", "a", "@", "b", "/c", "c"))
        for many in (1, 2, 3, 5, 8, 20, 100, 320):
            other = Program(("/a", "/b", "@", "b") + applied_row([("a",)] + selves(many)))
            self.assertIsNone(self.told(program, other))
            if many < 9:
                both = common(widest(program), widest(other))
                self.assertEqual(both.words, common_words(widest(program).words, widest(other).words))
                self.assertGreater(len(both.words), 2 ** many)
                self.assertFalse(is_even(both))
            if many > 19:
                with self.assertRaises(TooMany):
                    common(widest(program), widest(other))
            self.assertEqual(self.told(other, other), widest(other).words)


if __name__ == "__main__":
    unittest.main()
