"""[8.1] Programs and kinds as texts."""

import unittest

from oncekinds.counting import many, program_at
from oncekinds.errors import BadKind, BadProgram, BadText, KindError
from oncekinds.kinding import widest
from oncekinds.kinds import Kind
from oncekinds.naming import applied
from oncekinds.programs import Program
from oncekinds.texts import kind_text, read, read_kind, text
from tests.kind_trees import kinds_with, tree
from tests.samples import draws, fresh, letterings, things
from tests.trees import programs_with, right_words, tree_of

SMALL = right_words(("@", "/x", "/y", "x", "y", "z"), 6) + [
    words for names in ((), ("p",), ("p", "q")) for givens in range(3) for words in programs_with(givens, names)]
KINDS = [words for places in range(1, 5) for words in kinds_with(places)]


def text_by_trees(part):
    """Return the text of a tree."""
    if part[0] == "name":
        return part[1]
    if part[0] == "/":
        return f"[{part[1]}] {text_by_trees(part[2])}"
    return f"({text_by_trees(part[1])} {text_by_trees(part[2])})"


def kind_text_by_trees(kind, names):
    """Return the text of the tree of a kind; the names are the texts of the letters."""
    if not isinstance(kind, tuple):
        return names[kind]
    left = kind_text_by_trees(kind[0], names)
    return (f"({left})" if isinstance(kind[0], tuple) else left) + " > " + kind_text_by_trees(kind[1], names)


def ways_on(signs, rules, begin):
    """Return the index of the first sign at which no text goes on so, the length if some is lacking, None for a text.

    A state is the row of what is still awaited, the next one last; the rules tell for what is awaited the rows, of
    signs and of what is awaited, that it may be.
    """
    states = {(begin,)}
    for at, sign in enumerate(signs):
        states = {row[:-1] for row in opened(states, rules) if row and row[-1] == sign}
        if not states:
            return at
    return None if () in opened(states, rules) else len(signs)


def opened(states, rules):
    """Return all rows whose last item is a sign, and the empty row, to which rows lead by the rules."""
    found, waiting = set(), list(states)
    while waiting:
        row = waiting.pop()
        if row and row[-1] in rules:
            waiting += [row[:-1] + tuple(reversed(more)) for more in rules[row[-1]]]
        else:
            found.add(row)
    return found


LETTERS = [(sign,) for sign in "abcdefghijklmnopqrstuvwxyz"]
# A name is a letter, and up to seven that follow.
PROGRAM_RULES = {
    "PART": [("NAME",), ("[", "NAME", "]", " ", "PART"), ("(", "PART", " ", "PART", ")")],
    "NAME": [("LETTER", "MORE7")],
    "LETTER": LETTERS,
    "MORE0": [()],
    **{f"MORE{left}": [(), ("LETTER", f"MORE{left - 1}")] for left in range(1, 8)},
}
KIND_RULES = {
    "KIND": [("SIGN",), ("TURN",)],
    "TURN": [("LEFT", " ", ">", " ", "KIND")],
    "LEFT": [("SIGN",), ("(", "TURN", ")")],
    "SIGN": [("LETTER",), ("LETTER", "LETTER")],
    "LETTER": LETTERS,
}


def begun_texts(signs, rules, begin, most):
    """Return all rows of at most so many signs that are texts or begin as texts do, each also with any sign more."""
    found, longest = [""], [""]
    for _ in range(most):
        longest = [row + sign for row in longest for sign in signs if ways_on(row, rules, begin) in (None, len(row))]
        found += longest
    return found


def changed_texts(whole, signs):
    """Return a text cut off, and with a sign left out, put in or exchanged, at each index."""
    rows = [whole[:at] for at in range(len(whole))]
    rows += [whole[:at] + whole[at + 1:] for at in range(len(whole))]
    rows += [whole[:at] + sign + whole[at + more:] for at in range(len(whole) + 1) for sign in signs for more in (0, 1)]
    return rows


class TextTest(unittest.TestCase):

    def test_some_programs(self):
        for words, told in [(("x",), "x"), (("/x", "x"), "[x] x"), (("@", "x", "y"), "(x y)"),
                            (("@", "/x", "x", "/y", "y"), "([x] x [y] y)"),
                            (("/f", "/x", "@", "f", "x"), "[f] [x] (f x)"),
                            (("@", "@", "a", "b", "@", "c", "d"), "((a b) (c d))"),
                            (("abcdefgh",), "abcdefgh"), (("/zz", "@", "@", "p", "zz", "q"), "[zz] ((p zz) q)")]:
            self.assertEqual(text(Program(words)), told)
            self.assertEqual(read(told).words, words)

    def test_forth_and_back(self):
        for words in SMALL:
            told = text(Program(words))
            self.assertEqual(told, text_by_trees(tree_of(words)[0]))
            self.assertEqual(read(told).words, words)
            self.assertIsInstance(read(told), Program)
        drawn = draws(1)
        for givens in range(13):
            for _ in range(20):
                program = program_at(givens, next(drawn) ** 4 % many(givens, 0))
                self.assertEqual(text(program), text_by_trees(tree_of(program.words)[0]))
                self.assertEqual(read(text(program)), program)

    def test_each_program_has_a_text_of_its_own(self):
        self.assertEqual(len({text(Program(words)) for words in SMALL}), len(set(SMALL)))


class ReadTest(unittest.TestCase):

    def bad(self, signs, call=read):
        """Return the index with which BadText is raised."""
        with self.assertRaises(BadText, msg=signs) as caught:
            call(signs)
        self.assertIsInstance(caught.exception, KindError)
        return caught.exception.index

    def test_some_texts(self):
        for signs, index in [("", 0), (" ", 0), ("x ", 1), (" x", 0), ("(x)", 2), ("(x y", 4), ("(x  y)", 3), ("( x y)", 1),
                             ("(x y )", 4), ("(x y))", 5), ("x)", 1), ("[x]x", 3), ("[x]  x", 4), ("[x] ", 4), ("[x]", 3),
                             ("[", 1), ("[]", 1), ("[x", 2), ("[x x", 2), ("x y", 1), ("(x y) z", 5), ("X", 0), ("x1", 1),
                             ("x\n", 1), ("(x\ny)", 2), ("[x]\nx", 3), ("@", 0), ("/x", 0), ("()", 1), ("(x [y] )", 7),
                             ("[x] [x", 6), ("(x y z)", 4)]:
            self.assertEqual(self.bad(signs), index, signs)

    def test_long_names(self):
        self.assertEqual(read("abcdefgh").words, ("abcdefgh",))
        self.assertEqual(self.bad("abcdefghi"), 8)
        self.assertEqual(self.bad("abcdefghi("), 8)
        self.assertEqual(read("[abcdefgh] abcdefgh").words, ("/abcdefgh", "abcdefgh"))
        self.assertEqual(self.bad("[abcdefghi] abcdefghi"), 9)
        self.assertEqual(self.bad("(abcdefgh abcdefghi)"), 18)
        self.assertEqual(self.bad("a" * 1000), 8)

    def test_all_short_texts(self):
        for signs in begun_texts("([]) x", PROGRAM_RULES, "PART", 8):
            index = ways_on(signs, PROGRAM_RULES, "PART")
            if index is None:
                try:
                    self.assertEqual(text(read(signs)), signs)
                except BadProgram:
                    pass
            else:
                self.assertEqual(self.bad(signs), index, signs)

    def test_changed_texts(self):
        for whole in ("([abc] (abc x) [y] (y [z] z))", "[f] [abcdefgh] ((p abcdefgh) f)"):
            self.assertIsInstance(read(whole), Program)
            for signs in changed_texts(whole, "([]) aA\n-~>"):
                index = ways_on(signs, PROGRAM_RULES, "PART")
                if index is None:
                    try:
                        self.assertEqual(text(read(signs)), signs)
                    except BadProgram:
                        pass
                else:
                    self.assertEqual(self.bad(signs), index, signs)

    def test_bad_programs(self):
        for signs, index in [("(x x)", 2), ("[x] y", 0), ("[x] [x] x", 1), ("(x [x] x)", 3), ("[x] (x x)", 3),
                             ("([x] y x)", 1), ("[x] [y] x", 1)]:
            with self.assertRaises(BadProgram) as caught:
                read(signs)
            self.assertEqual(caught.exception.index, index, signs)

    def test_the_form_comes_first(self):
        # All of it is looked at as a text before names are looked at.
        self.assertEqual(self.bad("(x x"), 4)
        self.assertEqual(self.bad("(x x) "), 5)
        self.assertEqual(self.bad("([x] y [x] y"), 12)

    def test_programs_that_are_too_long(self):
        names = fresh(501)
        rows = [(name,) for name in names]
        whole = Program(("@",) * 499 + tuple(name for row in rows[:500] for name in row))
        self.assertEqual(read(text(whole)), whole)
        more = "(" + text(whole) + " " + names[500] + ")"
        with self.assertRaises(BadProgram) as caught:
            read(more)
        self.assertEqual(caught.exception.index, -1)
        self.assertEqual(self.bad(more + ")"), len(more))
        self.assertEqual(self.bad(more[:-1]), len(more) - 1)
        long = applied(Program(("/x", "x")), whole)
        self.assertEqual(len(long.words), 1002)
        with self.assertRaises(BadProgram) as caught:
            read(text(long))
        self.assertEqual(caught.exception.index, -1)

    def test_what_is_no_string(self):
        for thing in things():
            if not isinstance(thing, str):
                with self.subTest(thing=repr(thing)[:60]):
                    self.assertEqual(self.bad(thing), -1)
                    self.assertEqual(self.bad(thing, read_kind), -1)


class KindTextTest(unittest.TestCase):

    def test_some_kinds(self):
        for words, told in [((0,), "a"), ((">", 0, 0), "a > a"), ((">", ">", 0, 1, ">", 0, 1), "(a > b) > a > b"),
                            ((">", ">", ">", 0, 1, 2, 3), "((a > b) > c) > d"), ((25,), "z"), ((26,), "aa"), ((701,), "zz"),
                            ((">", 27, ">", 51, 52), "ab > az > ba")]:
            self.assertEqual(kind_text(Kind(words)), told)
            self.assertEqual(read_kind(told).words, words)

    def test_forth_and_back(self):
        names = letterings(9)
        for words in KINDS:
            told = kind_text(Kind(words))
            self.assertEqual(told, kind_text_by_trees(tree(words), names))
            self.assertEqual(read_kind(told).words, words)
            self.assertIsInstance(read_kind(told), Kind)

    def test_kinds_of_programs(self):
        drawn = draws(4)
        for givens in range(13):
            for _ in range(10):
                kind = widest(program_at(givens, next(drawn) ** 4 % many(givens, 0)))
                self.assertEqual(read_kind(kind_text(kind)), kind)
                self.assertEqual(kind_text(kind), kind_text_by_trees(tree(kind.words), letterings(20)))

    def test_letters(self):
        for letter, name in enumerate(letterings(2000)):
            self.assertEqual(kind_text(Kind((letter,))), name)
            if letter < 702:
                self.assertEqual(read_kind(name).words, (letter,))
            else:
                self.assertEqual(len(name), 3)
                with self.assertRaises(BadText) as caught:
                    read_kind(name)
                self.assertEqual(caught.exception.index, 2)

    def test_great_letters(self):
        for letter in (10 ** 39, 10 ** 40 - 1, 26 ** 20 + 17):
            told = kind_text(Kind((letter,)))
            self.assertGreater(len(told), 15)
            number = 0
            for sign in told:
                number = number * 26 + "abcdefghijklmnopqrstuvwxyz".index(sign) + 1
            self.assertEqual(number - 1, letter)
            self.assertEqual(kind_text(Kind((">", letter, 0))), told + " > a")
            with self.assertRaises(BadText) as caught:
                read_kind("b > " + told)
            self.assertEqual(caught.exception.index, 6)


class ReadKindTest(unittest.TestCase):

    def bad(self, signs):
        """Return the index with which BadText is raised."""
        with self.assertRaises(BadText, msg=signs) as caught:
            read_kind(signs)
        self.assertIsInstance(caught.exception, KindError)
        return caught.exception.index

    def test_some_texts(self):
        for signs, index in [("", 0), (" ", 0), ("a ", 2), ("a >", 3), ("a > ", 4), (" a", 0), ("a>b", 1), ("a  > b", 2),
                             ("a >  b", 4), ("a > b ", 6), ("(a)", 2), ("(a > b)", 7), ("(a > b", 6), ("a > (b > c)", 11),
                             ("((a > b)) > c", 8), ("abc", 2), ("ab > abc", 7), ("A", 0), ("0", 0), ("a > b)", 5),
                             ("a\n> b", 1), ("(a > b)> c", 7), ("()", 1), ("(a > b) c", 8), ("(a) > b", 2)]:
            self.assertEqual(self.bad(signs), index, signs)

    def test_all_short_texts(self):
        for signs in begun_texts("() >a", KIND_RULES, "KIND", 12):
            self.looked_at(signs)

    def test_changed_texts(self):
        for whole in ("((ab > c) > d) > (zz > e) > f > g", "(a > b > cc) > d"):
            self.assertEqual(kind_text(read_kind(whole)), whole)
            for signs in changed_texts(whole, "() >aA\n[-~"):
                self.looked_at(signs)

    def looked_at(self, signs):
        """Hold what read_kind does against the rules of the texts."""
        index = ways_on(signs, KIND_RULES, "KIND")
        if index is None:
            self.assertEqual(kind_text(read_kind(signs)), signs)
        else:
            self.assertEqual(self.bad(signs), index, signs)

    def test_kinds_that_are_too_long(self):
        most = " > ".join(["a"] * 2000)
        self.assertEqual(len(read_kind(most).words), 3999)
        for signs in (most + " > a", "(" + most + ") > b", "b > " + most):
            with self.assertRaises(BadKind) as caught:
                read_kind(signs)
            self.assertEqual(caught.exception.index, -1)
            self.assertIsInstance(caught.exception, KindError)
            self.assertEqual(self.bad(signs + " "), len(signs) + 1)
            self.assertEqual(self.bad(signs + ")"), len(signs))


if __name__ == "__main__":
    unittest.main()
