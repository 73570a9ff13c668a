"""[9.1] A desk that works by lines."""

import unittest

from oncekinds.counting import program_at
from oncekinds.desk import Desk
from oncekinds.errors import BadProgram, BadText, KindError, NoLine, NoStep, NotClosed, NothingDone, Unknown
from oncekinds.filling import given_kind
from oncekinds.kinding import widest
from oncekinds.likeness import alike, callers_alike
from oncekinds.programs import Program
from oncekinds.stepping import many_steps, rest, stepped, steps
from oncekinds.texts import kind_text, read, text
from tests.samples import applied_row, draws, fresh, selves, things

ASKS = ("show", "rest", "kind", "steps")
PAIRS = ("alike", "callers", "give")


def filled_desk(*lines):
    """Return a Desk to which these lines were told."""
    desk = Desk()
    for line in lines:
        desk.tell(line)
    return desk


def told(desk):
    """Return what a desk tells of all that it keeps, and how much can be taken back."""
    names = desk.tell("names")
    rows = [desk.tell(f"show {name}") for name in names.split(" ")] if names != "none" else []
    return names, rows, desk.undoable()


class LinesTest(unittest.TestCase):

    def test_each_form(self):
        desk = Desk()
        for line, answer in [
                ("names", "none"), ("program b [f] [x] (f x)", "ok"), ("names", "b"), ("program a ([g] ([u] u g) [y] y)", "ok"),
                ("names", "a b"), ("show a", "([g] ([u] u g) [y] y)"), ("rest a", "[y] y"), ("kind a", "a > a"), ("steps a", "2"),
                ("show b", "[f] [x] (f x)"), ("rest b", "[f] [x] (f x)"), ("kind b", "(a > b) > a > b"), ("steps b", "0"),
                ("alike a b", "no"), ("alike a a", "yes"), ("callers a b", "yes"), ("give b a", "a > a"), ("give a b", "(a > b) > a > b"),
                ("program c [f] [x] (x f)", "ok"), ("callers a c", "no"), ("give c b", "(((a > b) > a > b) > c) > c"),
                ("step a 2", "ok"), ("show a", "([g] g [y] y)"), ("step a 0", "ok"), ("show a", "[y] y"), ("undo", "ok"),
                ("show a", "([g] g [y] y)"), ("drop b", "ok"), ("names", "a c"), ("undo", "ok"), ("names", "a b c")]:
            told_line = desk.tell(line)
            self.assertEqual((told_line, type(told_line)), (answer, str), line)

    def test_against_the_other_modules(self):
        drawn = draws(11)
        desk, programs = Desk(), {}
        for name in "abcdef":
            programs[name] = program_at(5, next(drawn) % 800000)
            self.assertEqual(desk.tell(f"program {name} {text(programs[name])}"), "ok")
        for one, program in programs.items():
            self.assertEqual(desk.tell(f"show {one}"), text(program))
            self.assertEqual(desk.tell(f"rest {one}"), text(rest(program)))
            self.assertEqual(desk.tell(f"kind {one}"), kind_text(widest(program)))
            self.assertEqual(desk.tell(f"steps {one}"), str(many_steps(program)))
            for two, other in programs.items():
                self.assertEqual(desk.tell(f"alike {one} {two}"), "yes" if alike(program, other) else "no")
                self.assertEqual(desk.tell(f"callers {one} {two}"), "yes" if callers_alike(program, other) else "no")
                self.assertEqual(desk.tell(f"give {one} {two}"), kind_text(given_kind(widest(program), widest(other))))
        self.assertEqual(desk.undoable(), 6)

    def test_names_are_not_words(self):
        desk = filled_desk("program names [x] x", "program none [y] y", "program undo [z] ([u] u z)", "step undo 1")
        self.assertEqual((desk.tell("names"), desk.tell("show names"), desk.tell("rest undo")), ("names none undo", "[x] x", "[z] z"))

    def test_all_steps(self):
        program = read("([a] ([b] b a) ([c] c [d] ([e] e d)))")
        for place in range(len(program.words) + 2):
            desk = filled_desk(f"program p {text(program)}")
            if place in steps(program):
                self.assertEqual(desk.tell(f"step p {place}"), "ok")
                self.assertEqual(desk.tell("show p"), text(stepped(program, place)))
                self.assertEqual(desk.undoable(), 2)
            else:
                with self.assertRaises(NoStep):
                    desk.tell(f"step p {place}")
                self.assertEqual(desk.undoable(), 1)


class UndoTest(unittest.TestCase):

    def test_all_three(self):
        desk, states = Desk(), []
        lines = ["program a ([x] x [y] y)", "program b [f] [x] (f x)", "program a ([u] u ([x] x [y] y))", "step a 0", "step a 0",
                 "drop a", "program a [z] z", "drop b", "drop a", "program a [w] w"]
        for at, line in enumerate(lines):
            states.append(told(desk))
            self.assertEqual(desk.undoable(), at)
            self.assertEqual(desk.tell(line), "ok")
        for at, state in reversed(list(enumerate(states))):
            self.assertEqual(desk.tell("undo"), "ok")
            self.assertEqual(told(desk), state)
            self.assertEqual(desk.undoable(), at)
        self.assertIs(type(desk.undoable()), int)
        with self.assertRaises(NothingDone) as caught:
            desk.tell("undo")
        self.assertIsInstance(caught.exception, KindError)
        self.assertEqual(told(desk), ("none", [], 0))

    def test_what_was_taken_back_is_not_taken_back_again(self):
        desk = filled_desk("program a [x] x", "program b [y] y", "undo", "program c [z] z", "undo", "undo")
        self.assertEqual((desk.tell("names"), desk.undoable()), ("none", 0))

    def test_other_lines_are_not_taken_back(self):
        desk = filled_desk("program a [x] x", "show a", "names", "alike a a", "give a a", "kind a")
        self.assertEqual(desk.undoable(), 1)
        desk.tell("undo")
        self.assertEqual(desk.tell("names"), "none")

    def test_drawn_lines(self):
        drawn = draws(31)
        desk, states = Desk(), [{}]
        for _ in range(400):
            choice, name = next(drawn) % 6, "abc"[next(drawn) % 3]
            state = dict(states[-1])
            if choice < 2:
                state[name] = program_at(4, next(drawn) % 27000)
                line = f"program {name} {text(state[name])}"
            elif choice < 4 and name in state and steps(state[name]):
                place = steps(state[name])[-1]
                state[name] = stepped(state[name], place)
                line = f"step {name} {place}"
            elif choice == 4 and name in state:
                del state[name]
                line = f"drop {name}"
            else:
                line, state = "undo", None
            if state is not None:
                desk.tell(line)
                states.append(state)
            elif len(states) > 1:
                desk.tell(line)
                states.pop()
            self.assertEqual(desk.undoable(), len(states) - 1)
            self.assertEqual(desk.tell("names"), " ".join(sorted(states[-1])) or "none")
            for one, program in states[-1].items():
                self.assertEqual(desk.tell(f"show {one}"), text(program))

    def test_desks_are_apart(self):
        one, other = filled_desk("program a [x] x"), Desk()
        self.assertEqual((other.tell("names"), other.undoable()), ("none", 0))
        one.tell("drop a")
        self.assertEqual(Desk().undoable(), 0)


class ErrorsTest(unittest.TestCase):

    def setUp(self):
        self.desk = filled_desk("program a ([x] x [y] y)", "program b [f] [x] (f x)", "program c [x] x", "drop c")

    def refused(self, error, line):
        """Look at the error that a line raises, and that nothing has changed; return it."""
        before = told(self.desk)
        with self.assertRaises(error, msg=repr(line)[:80]) as caught:
            self.desk.tell(line)
        self.assertIs(type(caught.exception), error, line)
        self.assertIsInstance(caught.exception, KindError)
        self.assertEqual(told(self.desk), before)
        return caught.exception

    def test_no_line(self):
        for thing in things() + ["", " ", "a", "x", "Names", "names ", " names", "names names", "names a", "undo ", "undo a", "undo 1",
                                 "undone", "redo"]:
            self.refused(NoLine, thing)

    def test_a_wrong_number_of_words(self):
        for word in ASKS + ("drop",):
            for line in (word, f"{word} ", f"{word} a b", f"{word}  a", f"{word} a ", f" {word} a", f"{word}a", f"{word}\ta"):
                self.refused(NoLine, line)
        for word in PAIRS:
            for line in (word, f"{word} a", f"{word} a b a", f"{word} a  b", f"{word}  a b", f"{word} a b ", f" {word} a b", f"{word} a "):
                self.refused(NoLine, line)
        for line in ("step", "step a", "step a ", "step a 0 ", "step  a 0", "step a  0", "step a 0 0", "step 0", "step 0 a", " step a 0",
                     "program", "program ", "program a", "program  [x] x", " program a [x] x", "program  a [x] x"):
            self.refused(NoLine, line)

    def test_line_feeds(self):
        for line in ("names\n", "\nnames", "program c [x]\nx", "program c [x] x\n", "show a\n", "show\na", "undo\n", "program c \n"):
            self.refused(NoLine, line)

    def test_what_is_no_name(self):
        for wrong in ("A", "abcdefghi", "a1", "1", "a-b", "/a", "@", "a.", "[a]"):
            for word in ASKS + ("drop",):
                self.refused(NoLine, f"{word} {wrong}")
            for word in PAIRS:
                self.refused(NoLine, f"{word} a {wrong}")
                self.refused(NoLine, f"{word} {wrong} a")
                self.refused(NoLine, f"{word} zz {wrong}")
            self.refused(NoLine, f"step {wrong} 0")
            self.refused(NoLine, f"program {wrong} [x] x")
            self.refused(NoLine, f"program {wrong} ")

    def test_what_is_no_place(self):
        for wrong in ("00", "01", "-1", "+0", "-0", "0x0", "1.", "1e0", "a", "1_0", "", "zero", "0a", "a0", "0" * 50, "0" + "1" * 5000):
            self.refused(NoLine, f"step a {wrong}")
            self.refused(NoLine, f"step zz {wrong}")

    def test_texts(self):
        for name in ("a", "new"):
            for signs, index in (("", 0), (" ", 0), (" [x] x", 0), ("[x] x ", 5), ("[x]  x", 4), ("[x]", 3), ("(x", 2), ("X", 0),
                                 ("[x] x [y] y", 5), ("abcdefghi", 8)):
                self.assertEqual(self.refused(BadText, f"program {name} {signs}").index, index)
            for signs, index in (("(x x)", 2), ("[x] y", 0), ("[x] [x] x", 1)):
                self.assertEqual(self.refused(BadProgram, f"program {name} {signs}").index, index)
            for signs in ("x", "[x] (x y)", "a", "([x] x y)"):
                self.refused(NotClosed, f"program {name} {signs}")
        long = "(" + text(Program(applied_row(selves(333)))) + " [z] [y] (z y))"
        self.assertEqual(self.refused(BadProgram, f"program new {long}").index, -1)

    def test_unknown(self):
        for word in ASKS + ("drop",):
            self.assertEqual(self.refused(Unknown, f"{word} zz").name, "zz")
            self.assertEqual(self.refused(Unknown, f"{word} c").name, "c")
        for word in PAIRS:
            for line, name in (("zz a", "zz"), ("a zz", "zz"), ("zz yy", "zz"), ("yy zz", "yy"), ("zz zz", "zz"), ("b c", "c")):
                self.assertEqual(self.refused(Unknown, f"{word} {line}").name, name)
        # What is unknown comes ahead of what is no step.
        for place in ("0", "5", "1" * 5000):
            self.assertEqual(self.refused(Unknown, f"step zz {place}").name, "zz")

    def test_no_step(self):
        for place in ("1", "2", "5", "6", "100", "9" * 40, "9" * 41, "1" * 5000, "1" + "0" * 4999):
            self.refused(NoStep, f"step a {place}")
            self.refused(NoStep, f"step b {place}")
        self.refused(NoStep, "step b 0")
        self.assertEqual(self.desk.tell("step a 0"), "ok")
        self.refused(NoStep, "step a 0")

    def test_nothing_done(self):
        for _ in range(4):
            self.desk.tell("undo")
        self.refused(NothingDone, "undo")
        self.refused(NoLine, "undo ")
        self.refused(Unknown, "drop a")


class GreatTest(unittest.TestCase):

    def test_great_programs(self):
        names = fresh(333)
        signs = "".join(f"[{name}] " for name in names) + "(" * 332 + names[0] + "".join(f" {name})" for name in names[1:])
        desk = filled_desk(f"program a {signs}", "program b " + text(Program(applied_row(selves(333)))))
        self.assertEqual((desk.tell("show a"), desk.tell("rest a"), desk.tell("steps a")), (signs, signs, "0"))
        self.assertEqual((desk.tell("steps b"), desk.tell("kind b"), desk.tell("give b a")), ("332", "a > a", desk.tell("kind a")))
        self.assertEqual((desk.tell("alike a b"), desk.tell("callers a b")), ("no", "yes"))
        for at in range(332, 0, -1):
            desk.tell(f"step b {at - 1}")
        self.assertEqual(desk.tell("steps b"), "0")
        self.assertEqual(desk.undoable(), 334)


if __name__ == "__main__":
    unittest.main()
