"""[1.3] Names told anew, and programs put together."""

import unittest

from oncekinds.errors import NoName, NoNames, SharedNames
from oncekinds.naming import applied, put_in, renamed, same, standard
from oncekinds.programs import Program, open_names
from tests.samples import first_unlike, fresh, leftward, letterings, things
from tests.trees import meaning, open_in, replaced, right_words

SMALL = [Program(words) for words in right_words(("@", "/x", "/a", "x", "a", "b"), 5)]


def takes_of(program):
    """Return the list of what is taken, in the order of the takes."""
    return [word[1:] for word in program.words if word.startswith("/")]


def first_names(many, held):
    """Return the first so many letterings that are not held."""
    return [name for name in letterings(many + len(held)) if name not in held][:many]


class RenamedTest(unittest.TestCase):

    def test_names_are_told_anew(self):
        program = Program(("/f", "@", "f", "y"))
        self.assertEqual(renamed(program, {"f": "g", "y": "z"}).words, ("/g", "@", "g", "z"))
        self.assertEqual(renamed(program, {"f": "f", "y": "y"}), program)
        self.assertEqual(renamed(Program(("x",)), {"x": "abcdefgh"}).words, ("abcdefgh",))

    def test_names_are_exchanged(self):
        program = Program(("/f", "@", "f", "y"))
        self.assertEqual(renamed(program, {"f": "y", "y": "f"}).words, ("/y", "@", "y", "f"))

    def test_names_are_turned_about(self):
        program = Program(("/x", "/y", "@", "@", "y", "x", "z"))
        turned = renamed(program, {"x": "y", "y": "z", "z": "x"})
        self.assertEqual(turned.words, ("/y", "/z", "@", "@", "z", "y", "x"))
        back = renamed(turned, {"y": "x", "z": "y", "x": "z"})
        self.assertEqual(back, program)

    def test_no_dict(self):
        for thing in things():
            if not isinstance(thing, dict):
                with self.subTest(thing=repr(thing)[:60]):
                    self.refused(Program(("x",)), thing)
        self.refused(Program(("x",)), [("x", "y")])
        self.refused(Program(("x",)), (("x", "y"),))

    def test_keys_are_just_the_names(self):
        program = Program(("/f", "@", "f", "y"))
        for names in ({}, {"f": "g"}, {"y": "z"}, {"f": "g", "y": "z", "w": "v"}, {"f": "g", "w": "z"},
                      {"f": "g", "y": "z", 1: "v"}, {"f": "g", "y": "z", None: "v"}, {"f": "g", 0: "z"},
                      {"f": "g", ("y",): "z"}, {"/f": "g", "y": "z"}, {"@": "g", "f": "h", "y": "z"},
                      {"f": "g", b"y": "z"}, {"f": "g", "Y": "z"}):
            with self.subTest(names=names):
                self.refused(program, names)

    def test_values_are_names(self):
        program = Program(("/f", "@", "f", "y"))
        wrong = [thing for thing in things() if thing not in ("a", "x")]
        for value in wrong + ["", "A", "/g", "@", "abcdefghi", "g ", "g1", 0, None, ["g"], ("g",), {"g": "g"}]:
            with self.subTest(value=repr(value)[:60]):
                self.refused(program, {"f": value, "y": "z"})
                self.refused(program, {"f": "g", "y": value})
                self.refused(program, {"f": value, "y": value})

    def test_values_are_unlike(self):
        program = Program(("/f", "@", "f", "y"))
        for names in ({"f": "g", "y": "g"}, {"f": "f", "y": "f"}, {"f": "y", "y": "y"}):
            with self.subTest(names=names):
                self.refused(program, names)

    def test_nothing_is_changed(self):
        words = ("/f", "@", "f", "y")
        program = Program(words)
        names = {"y": "f", "f": "y"}
        once = renamed(program, names)
        self.assertEqual(list(names.items()), [("y", "f"), ("f", "y")])
        self.assertEqual(program.words, words)
        self.assertEqual(renamed(program, names), once)
        names["f"] = "h"
        self.assertEqual(once.words, ("/y", "@", "y", "f"))

    def test_refused_dicts_stay(self):
        program = Program(("/f", "@", "f", "y"))
        names = {"f": "g", "y": ["g"]}
        self.refused(program, names)
        self.assertEqual(names, {"f": "g", "y": ["g"]})
        self.assertEqual(program.words, ("/f", "@", "f", "y"))

    def refused(self, program, names):
        with self.assertRaises(NoNames):
            renamed(program, names)


class StandardTest(unittest.TestCase):

    def test_takes_get_the_first_names(self):
        self.assertEqual(standard(Program(("/f", "/x", "@", "f", "x"))).words, ("/a", "/b", "@", "a", "b"))
        self.assertEqual(standard(Program(("/f", "/x", "@", "x", "f"))).words, ("/a", "/b", "@", "b", "a"))
        self.assertEqual(standard(Program(("x",))).words, ("x",))
        self.assertEqual(standard(Program(("@", "/q", "q", "/r", "r"))).words, ("@", "/a", "a", "/b", "b"))

    def test_names_that_are_there_already_are_exchanged(self):
        self.assertEqual(standard(Program(("/b", "/a", "@", "b", "a"))).words, ("/a", "/b", "@", "a", "b"))
        self.assertEqual(standard(Program(("/b", "/c", "/a", "@", "@", "a", "b", "c"))).words,
                         ("/a", "/b", "/c", "@", "@", "c", "a", "b"))

    def test_open_names_are_left_out(self):
        self.assertEqual(standard(Program(("/x", "@", "x", "a"))).words, ("/b", "@", "b", "a"))
        self.assertEqual(standard(Program(("@", "b", "/x", "/y", "@", "@", "x", "y", "d"))).words,
                         ("@", "b", "/a", "/c", "@", "@", "a", "c", "d"))
        self.assertEqual(standard(Program(("/b", "@", "b", "a"))).words, ("/b", "@", "b", "a"))

    def test_more_than_26_takes(self):
        taken = fresh(30)
        program = Program(tuple("/" + name for name in taken) + leftward(taken, ()))
        self.assertEqual(takes_of(standard(program)), letterings(30))
        self.assertEqual(takes_of(standard(program))[24:], ["y", "z", "aa", "ab", "ac", "ad"])
        self.assertEqual(standard(program).words[30:], leftward(letterings(30), ()))

    def test_more_than_26_takes_beside_open_names(self):
        taken = fresh(30)
        held = ["z", "a", "ab", "zz", "m"]
        program = Program(tuple("/" + name for name in taken) + leftward(held + taken, ()))
        told = takes_of(standard(program))
        self.assertEqual(told, first_names(30, held))
        self.assertEqual(told[22:], ["y", "aa", "ac", "ad", "ae", "af", "ag", "ah"])
        self.assertEqual(open_names(standard(program)), tuple(held))

    def test_all_small_programs(self):
        for program in SMALL:
            told = standard(program)
            self.assertEqual(meaning(told), meaning(program))
            self.assertEqual(takes_of(told), first_names(len(takes_of(program)), open_in(program.words)))
            self.assertEqual(Program(told.words), told)
            self.assertEqual(standard(told), told)


class SameTest(unittest.TestCase):

    def test_taken_names_do_not_count(self):
        self.assertIs(same(Program(("/x", "x")), Program(("/y", "y"))), True)
        self.assertIs(same(Program(("/f", "/x", "@", "f", "x")), Program(("/x", "/f", "@", "x", "f"))), True)

    def test_all_else_counts(self):
        self.assertIs(same(Program(("x",)), Program(("y",))), False)
        self.assertIs(same(Program(("/f", "/x", "@", "f", "x")), Program(("/f", "/x", "@", "x", "f"))), False)
        self.assertIs(same(Program(("/x", "@", "x", "a")), Program(("/x", "@", "x", "b"))), False)
        self.assertIs(same(Program(("/x", "@", "x", "y")), Program(("/x", "@", "y", "x"))), False)

    def test_all_pairs_of_small_programs(self):
        seen = [meaning(program) for program in SMALL]
        for at, program in enumerate(SMALL[:60]):
            for to, other in enumerate(SMALL):
                self.assertIs(same(program, other), seen[at] == seen[to])


class AppliedTest(unittest.TestCase):

    def test_one_given_to_the_other(self):
        one = Program(("/x", "x"))
        self.assertEqual(applied(one, one).words, ("@", "/a", "a", "/b", "b"))
        self.assertEqual(applied(Program(("x",)), Program(("y",))).words, ("@", "x", "y"))
        self.assertEqual(applied(one, Program(("/f", "/x", "@", "f", "x"))).words,
                         ("@", "/a", "a", "/b", "/c", "@", "b", "c"))

    def test_no_name_is_caught(self):
        one = Program(("/x", "@", "x", "y"))
        other = Program(("/y", "@", "y", "x"))
        self.assertEqual(applied(one, other).words, ("@", "/a", "@", "a", "y", "/b", "@", "b", "x"))
        self.assertEqual(applied(Program(("/b", "@", "b", "a")), Program(("/a", "@", "a", "c"))).words,
                         ("@", "/b", "@", "b", "a", "/d", "@", "d", "c"))

    def test_shared_names(self):
        for one, other in ((("x",), ("x",)), (("@", "x", "y"), ("/z", "@", "z", "y")), (("/a", "@", "a", "b"), ("b",))):
            with self.assertRaises(SharedNames):
                applied(Program(one), Program(other))
        self.assertEqual(applied(Program(("/x", "x")), Program(("x",))).words, ("@", "/a", "a", "x"))

    def test_all_pairs_of_small_programs(self):
        for program in SMALL:
            for other in SMALL:
                if set(open_in(program.words)) & set(open_in(other.words)):
                    with self.assertRaises(SharedNames):
                        applied(program, other)
                else:
                    told = applied(program, other)
                    self.assertEqual(meaning(told), ("@", meaning(program), meaning(other)))
                    self.assertEqual(standard(Program(told.words)), told)

    def test_more_than_702_takes(self):
        taken = fresh(300)
        one = Program(tuple("/" + name for name in taken) + leftward(taken, ()))
        held = Program(("@", "zz", "@", "b", "aab"))
        whole = applied(applied(one, one), applied(one, held))
        self.assertIsNone(first_unlike(takes_of(whole), first_names(900, ["zz", "b", "aab"])))
        self.assertEqual(takes_of(whole)[698:703], ["zx", "zy", "aaa", "aac", "aad"])
        self.assertEqual(len(whole.words), 3 + 3 * 899 + 5)
        self.assertIsNone(first_unlike(takes_of(applied(applied(one, one), one)), letterings(900)))

    def test_nothing_is_changed(self):
        one = Program(("/x", "@", "x", "y"))
        other = Program(("/y", "@", "y", "x"))
        self.assertEqual(applied(one, other), applied(one, other))
        self.assertEqual((one.words, other.words), (("/x", "@", "x", "y"), ("/y", "@", "y", "x")))


class PutInTest(unittest.TestCase):

    def test_other_comes_in_the_place_of_the_name(self):
        program = Program(("/f", "@", "f", "y"))
        self.assertEqual(put_in(program, "y", Program(("/x", "x"))).words, ("/a", "@", "a", "/b", "b"))
        self.assertEqual(put_in(Program(("x",)), "x", Program(("/q", "q"))).words, ("/a", "a"))
        self.assertEqual(put_in(Program(("@", "x", "/z", "z")), "x", Program(("/q", "@", "q", "a"))).words,
                         ("@", "/b", "@", "b", "a", "/c", "c"))

    def test_takes_behind_the_place_come_behind(self):
        program = Program(("/p", "@", "@", "p", "x", "/q", "q"))
        other = Program(("/p", "/q", "@", "q", "p"))
        self.assertEqual(put_in(program, "x", other).words,
                         ("/a", "@", "@", "a", "/b", "/c", "@", "c", "b", "/d", "d"))

    def test_no_name_is_caught(self):
        program = Program(("/x", "@", "x", "y"))
        self.assertEqual(put_in(program, "y", Program(("x",))).words, ("/a", "@", "a", "x"))
        self.assertEqual(put_in(program, "y", Program(("/y", "@", "y", "x"))).words,
                         ("/a", "@", "a", "/b", "@", "b", "x"))
        self.assertEqual(put_in(program, "y", Program(("a",))).words, ("/b", "@", "b", "a"))

    def test_other_may_have_the_very_name(self):
        program = Program(("/x", "@", "x", "y"))
        self.assertEqual(put_in(program, "y", Program(("y",))).words, ("/a", "@", "a", "y"))
        self.assertEqual(put_in(program, "y", Program(("/x", "@", "x", "y"))).words,
                         ("/a", "@", "a", "/b", "@", "b", "y"))
        self.assertEqual(put_in(Program(("a",)), "a", Program(("/x", "@", "a", "x"))).words, ("/b", "@", "a", "b"))

    def test_a_name_that_goes_is_free_again(self):
        self.assertEqual(put_in(Program(("/x", "@", "x", "a")), "a", Program(("/y", "y"))).words,
                         ("/a", "@", "a", "/b", "b"))

    def test_no_name(self):
        program = Program(("/x", "@", "@", "x", "y", "z"))
        wrong = [thing for thing in things() if thing not in ("y", "z")]
        for name in wrong + ["x", "w", "", "@", "/y", "/x", "Y", ("y",), ["y"], None, b"y"]:
            with self.subTest(name=repr(name)[:60]):
                with self.assertRaises(NoName):
                    put_in(program, name, Program(("/q", "q")))

    def test_no_name_comes_ahead_of_shared_names(self):
        program = Program(("/x", "@", "@", "x", "y", "z"))
        for name in ("x", "w", None, 0):
            with self.assertRaises(NoName):
                put_in(program, name, Program(("y",)))

    def test_shared_names(self):
        program = Program(("/x", "@", "@", "x", "y", "z"))
        for words in (("z",), ("@", "y", "z"), ("/y", "@", "y", "z")):
            with self.assertRaises(SharedNames):
                put_in(program, "y", Program(words))
        with self.assertRaises(SharedNames):
            put_in(program, "z", Program(("y",)))

    def test_all_pairs_of_small_programs(self):
        for program in SMALL:
            for name in open_in(program.words):
                rest = [kept for kept in open_in(program.words) if kept != name]
                for other in SMALL:
                    if set(rest) & set(open_in(other.words)):
                        with self.assertRaises(SharedNames):
                            put_in(program, name, other)
                    else:
                        told = put_in(program, name, other)
                        self.assertEqual(meaning(told), replaced(meaning(program), name, meaning(other)))
                        self.assertEqual(standard(Program(told.words)), told)

    def test_nothing_is_changed(self):
        program = Program(("/x", "@", "x", "y"))
        other = Program(("/y", "@", "y", "x"))
        self.assertEqual(put_in(program, "y", other), put_in(program, "y", other))
        self.assertEqual((program.words, other.words), (("/x", "@", "x", "y"), ("/y", "@", "y", "x")))


if __name__ == "__main__":
    unittest.main()
