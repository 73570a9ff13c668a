"""[10.1] and [10.2] Books of programs that use one another."""

import unittest
from itertools import product

from oncekinds.books import Book
from oncekinds.deals import Deal
from oncekinds.errors import KindError, NoName, NoNumber, NoProgram, NothingDone, TooMany, Unknown
from oncekinds.kinding import widest
from oncekinds.kinds import Kind
from oncekinds.naming import applied, put_in, standard
from oncekinds.programs import Program
from oncekinds.stepping import rest
from oncekinds.texts import kind_text, read
from tests.book_model import CLOSED, NAMES, POOL, History, State, look_at, sealed, snapshot_of
from tests.samples import draws, things
from tests.test_great_numbers import takes_ahead

SELF = ("/x", "x")
GREAT = takes_ahead(333, False)


def filled_book(*rows):
    """Return a Book with these texts put under these names, one behind another."""
    book = Book()
    for name, signs in rows:
        book.put(name, read(signs))
    return book


def told(book):
    """Return all that a book tells of its entries and deeds."""
    names = book.names()
    rows = [(name, book.program(name).words, kind_words(book, name), book.uses(name), book.users(name), book.why(name))
            for name in names]
    return names, rows, book.order(), book.changed(), book.worked(), book.version(), book.journal()


def kind_words(book, name):
    """Return the words of the kind of an entry, or None."""
    kind = book.kind(name)
    return None if kind is None else kind.words


class SomeBooksTest(unittest.TestCase):

    def test_e09(self):
        b = Book()
        b.put("twice", read("[x] (g x)"))
        b.put("g", read("[y] y"))
        self.assertEqual((kind_text(b.kind("twice")), b.changed(), b.worked(), b.order()),
                         ('a > a', ['g', 'twice'], ['g', 'twice'], ['g', 'twice']))

    def test_an_empty_book(self):
        book = Book()
        self.assertEqual(told(book), ([], [], [], [], [], 0, ""))
        for call in (book.undo, book.redo):
            with self.assertRaises(NothingDone) as caught:
                call()
            self.assertIsInstance(caught.exception, KindError)
        self.assertEqual(told(book.at(0)), told(book))
        self.assertEqual(book.differing(0, 0), [])
        self.assertEqual(told(book.copy()), told(book))

    def test_what_methods_return(self):
        book = filled_book(("b", "[x] (a x)"), ("a", "[y] y"))
        self.assertIsNone(book.put("c", read("b")))
        self.assertIsNone(book.drop("c"))
        self.assertIsNone(book.undo())
        self.assertIsNone(book.redo())
        for row in (book.names(), book.uses("b"), book.users("a"), book.order(), book.changed(), book.worked(),
                    book.differing(0, 1)):
            self.assertIs(type(row), list)
        self.assertIs(type(book.version()), int)
        self.assertIs(type(book.journal()), str)
        self.assertIs(type(book.at(1)), Book)
        self.assertIs(type(book.copy()), Book)
        self.assertIs(type(book.deal()), Deal)
        self.assertIs(type(book.kind("a")), Kind)
        self.assertIs(type(book.rest("a")), Program)

    def test_lists_are_new(self):
        book = filled_book(("b", "[x] (a x)"), ("a", "[y] y"))
        before = told(book)
        for call in (book.names, lambda: book.uses("b"), lambda: book.users("a"), book.order, book.changed, book.worked,
                     lambda: book.differing(0, 2)):
            row = call()
            self.assertTrue(row)
            row.append("zz")
            row.reverse()
            row.clear()
            self.assertTrue(call())
        self.assertEqual(told(book), before)

    def test_why(self):
        book = filled_book(("a", "(b c)"), ("b", "[x] (zz x)"), ("c", "(a d)"), ("d", "e"))
        self.assertEqual(book.why("d"), ("lacking", "e"))
        self.assertEqual(book.why("b"), ("lacking", "zz"))
        # It comes to a ring, too, but what is lacking is told first, and of that the least name.
        self.assertEqual(book.why("a"), ("lacking", "e"))
        book.put("e", Program(SELF))
        self.assertEqual((book.why("a"), book.why("d")), (("lacking", "zz"), None))
        book.put("zz", Program(SELF))
        self.assertEqual(book.why("a")[0], "ring")
        self.assertEqual(sorted(book.why("a")[1]), ["a", "c"])
        self.assertIsNone(book.why("b"))

    def test_a_use_of_itself(self):
        book = filled_book(("a", "a"), ("b", "(a c)"), ("c", "[x] x"))
        self.assertEqual((book.why("a"), book.why("b")), (("ring", ("a",)), ("ring", ("a",))))
        self.assertEqual((book.uses("a"), book.users("a")), (["a"], ["a", "b"]))
        self.assertEqual((book.kind("a"), book.rest("a"), book.kind("b")), (None, None, None))
        book.put("a", Program(SELF))
        self.assertEqual((book.changed(), book.worked()), (["a", "b"], ["a", "b"]))
        book.put("a", read("[x] (a x)"))
        self.assertEqual((book.changed(), book.worked()), (["a", "b"], []))
        self.assertEqual(book.order(), ["c"])

    def test_a_ring_behind_others(self):
        book = filled_book(("a", "b"), ("b", "c"), ("c", "d"), ("d", "e"), ("e", "c"))
        row = book.why("a")[1]
        self.assertEqual(sorted(row), ["c", "d", "e"])
        at = row.index("c")
        self.assertEqual(row[at:] + row[:at], ("c", "d", "e"))

    def test_order_takes_the_least_that_can_come(self):
        book = filled_book(("z", "[x] x"), ("a", "(z y)"), ("y", "[x] x"), ("b", "[x] x"), ("c", "(a b)"), ("x", "u"))
        self.assertEqual(book.order(), ["b", "y", "z", "a", "c"])

    def test_users_of_what_is_not_there(self):
        book = filled_book(("a", "(p q)"), ("b", "[x] (x p)"))
        self.assertEqual((book.users("p"), book.users("q"), book.users("zz"), book.users("a")), (["a", "b"], ["a"], [], []))
        book.drop("a")
        self.assertEqual((book.users("p"), book.users("q")), (["b"], []))

    def test_kinds_hang_on_kinds_alone(self):
        # The ninth fact: a program of the same kind changes nothing else.
        book = filled_book(("f", "[x] [y] (x y)"), ("g", "([z] z f)"), ("h", "[u] (u (g f))"))
        kinds = [kind_words(book, name) for name in "fgh"]
        book.put("f", read("[a] [b] ([c] (a c) b)"))
        self.assertEqual((book.changed(), book.worked()), ([], ["f"]))
        self.assertEqual([kind_words(book, name) for name in "fgh"], kinds)
        book.put("g", read("f"))
        self.assertEqual((book.changed(), book.worked()), ([], ["g"]))
        book.undo()
        self.assertEqual((book.changed(), book.worked()), ([], ["g"]))
        book.put("f", read("[x] x"))
        self.assertEqual((book.changed(), book.worked()), (["f", "g", "h"], ["f", "g", "h"]))

    def test_a_change_that_goes_on_no_further(self):
        book = filled_book(("f", "[x] x"), ("g", "([a] [b] (b a) f)"), ("h", "(g k)"), ("k", "[p] p"))
        book.put("f", read("[x] [y] (x y)"))
        self.assertEqual((book.changed(), book.worked()), (["f", "g", "h"], ["f", "g", "h"]))
        book = filled_book(("f", "[x] x"), ("g", "(f [y] y)"), ("h", "[z] (g z)"), ("i", "(h u)"))
        book.put("f", read("[x] ([u] u x)"))
        self.assertEqual((book.changed(), book.worked()), ([], ["f"]))
        book.put("f", read("[x] [y] (x y)"))
        # ([x] [y] (x y) [y] y) is of the kind a > a again.
        self.assertEqual((book.changed(), book.worked()), (["f"], ["f", "g"]))
        self.assertEqual(kind_text(book.kind("h")), "a > a")

    def test_drop_and_put_again(self):
        book = filled_book(("g", "[y] y"), ("f", "[x] (g x)"), ("h", "(f gg)"), ("gg", "[y] [z] (y z)"))
        before = told(book)[:3]
        book.drop("g")
        self.assertEqual((book.changed(), book.worked()), (["f", "g", "h"], []))
        self.assertEqual((book.kind("f"), book.why("h"), book.order()), (None, ("lacking", "g"), ["gg"]))
        book.put("g", read("[y] y"))
        self.assertEqual((book.changed(), book.worked()), (["f", "g", "h"], ["f", "g", "h"]))
        self.assertEqual(told(book)[:3], before)

    def test_open_names_are_uses_but_taken_ones_are_not(self):
        book = filled_book(("x", "[y] y"), ("f", "[x] x"), ("g", "([y] y x)"))
        self.assertEqual((book.uses("f"), book.uses("g"), book.users("x")), ([], ["x"], ["g"]))
        self.assertEqual(kind_text(book.kind("g")), "a > a")

    def test_the_rest_is_standard(self):
        book = filled_book(("f", "[u] [v] (v u)"), ("g", "(f h)"), ("h", "[w] w"))
        self.assertEqual(book.rest("f").words, ("/a", "/b", "@", "b", "a"))
        self.assertEqual(book.rest("g").words, ("/a", "@", "a", "/b", "b"))
        self.assertEqual(book.program("f").words, ("/u", "/v", "@", "v", "u"))

    def test_one_rest_by_all_doors(self):
        # Put together by hand and put into a book.
        rows = [read(signs) for signs in ("[x] x", "[x] [y] (x y)", "[x] [y] (y x)", "[x] (x [z] z)")]
        for one, other in product(rows, repeat=2):
            book = Book()
            book.put("f", one)
            book.put("g", other)
            book.put("h", Program(("@", "f", "g")))
            self.assertEqual(book.rest("h"), standard(rest(applied(one, other))))
            self.assertEqual(book.kind("h"), widest(applied(one, other)))
            book.put("h", read("[z] (f (g z))"))
            whole = put_in(put_in(read("[z] (f (g z))"), "f", one), "g", other)
            self.assertEqual((book.kind("h"), book.rest("h")), (widest(whole), standard(rest(whole))))


class ErrorsTest(unittest.TestCase):

    def setUp(self):
        self.book = filled_book(("f", "[x] (g x)"), ("g", "[y] y"), ("h", "(f k)"))
        self.book.put("g", Program(SELF))
        self.book.undo()

    def refused(self, error, call, *row):
        """Look at the error that a call raises, and that nothing has changed; return it."""
        before = told(self.book)
        with self.assertRaises(error, msg=repr(row)[:80]) as caught:
            call(*row)
        self.assertIs(type(caught.exception), error)
        self.assertIsInstance(caught.exception, KindError)
        self.assertEqual(told(self.book), before)
        return caught.exception

    def test_no_name(self):
        for thing in things() + ["", "abcdefghi", "A", "a b", "a\n", " a", "/a", "@", "f1"]:
            if not (isinstance(thing, str) and thing in ("a", "x")):
                for program in (Program(SELF), None, thing):
                    self.refused(NoName, self.book.put, thing, program)
                self.refused(NoName, self.book.users, thing)
        self.book.redo()

    def test_no_program(self):
        for thing in things() + [applied(Program(GREAT), Program(SELF))]:
            if not isinstance(thing, Program) or len(thing.words) > 1000:
                for name in ("f", "new"):
                    self.refused(NoProgram, self.book.put, name, thing)
        self.book.redo()

    def test_a_program_of_just_so_many_words(self):
        long = Program(("@",) * 499 + tuple("q" + "".join(row) for row in product("abcdefgh", repeat=3))[:500])
        whole = put_in(long, "qaaa", read("[x] x"))
        self.assertEqual((len(long.words), len(whole.words)), (999, 1000))
        self.book.put("new", whole)
        self.refused(NoProgram, self.book.put, "new", applied(whole, Program(("z",))))
        self.refused(NoProgram, self.book.put, "new", put_in(whole, "qaab", Program(("@", "z", "zz"))))

    def test_unknown(self):
        book = self.book
        for thing in things() + ["k", "F", "f ", "abcdefghi", ("f",), ["f"], {"f": "f"}]:
            for call in (book.drop, book.program, book.kind, book.rest, book.why, book.uses):
                self.assertIs(self.refused(Unknown, call, thing).name, thing)
        self.book.redo()

    def test_no_number(self):
        book = self.book
        self.assertEqual(book.version(), 3)
        for thing in things() + [4, 5, -1, 10 ** 39, "0", (0,), [0], {0: 0}]:
            if isinstance(thing, bool) or not isinstance(thing, int) or not 0 <= thing <= 3:
                self.refused(NoNumber, book.at, thing)
                for row in ((thing, 0), (0, thing), (thing, thing)):
                    self.refused(NoNumber, book.differing, *row)
        self.book.redo()
        self.assertEqual(book.at(4).names(), ["f", "g", "h"])

    def test_nothing_done(self):
        book = self.book
        book.redo()
        self.refused(NothingDone, book.redo)
        for _ in range(4):
            book.undo()
        self.refused(NothingDone, book.undo)
        book.redo()
        book.put("z", Program(SELF))
        self.refused(NothingDone, book.redo)


class TooManyTest(unittest.TestCase):

    def setUp(self):
        # The kind of p has 1331 words, that of what gives p, q and r to a name 3999.
        self.book = Book()
        for name in ("p", "q", "r"):
            self.book.put(name, Program(GREAT))

    def refused(self, call, *row):
        """Look at the TooMany that a call raises, and that nothing has changed."""
        before = told(self.book)
        with self.assertRaises(TooMany) as caught:
            call(*row)
        self.assertEqual(caught.exception.most, 4000)
        self.assertEqual(told(self.book), before)

    def test_just_so_many(self):
        self.assertEqual(len(self.book.kind("p").words), 1331)
        self.book.put("all", read("[f] (((f p) q) r)"))
        self.assertEqual(len(self.book.kind("all").words), 3999)
        self.refused(self.book.put, "more", read("[f] (f all)"))
        self.refused(self.book.put, "more", read("[f] [g] (f (g all))"))
        self.refused(self.book.put, "all", read("[f] [g] (((f p) (g q)) r)"))
        self.book.put("more", read("all"))
        self.book.put("more", read("([x] x all)"))
        self.assertEqual(len(self.book.kind("more").words), 3999)

    def test_an_entry_that_becomes_whole(self):
        self.book.put("all", read("[f] (((f p) q) (u r))"))
        self.book.put("up", read("[f] (f all)"))
        self.assertEqual(self.book.kind("all"), None)
        self.refused(self.book.put, "u", read("[x] x"))
        # Another entry of the greatest kind is let if nothing uses it so.
        self.book.drop("up")
        self.book.put("u", read("[x] x"))
        self.assertEqual(len(self.book.kind("all").words), 3999)
        self.refused(self.book.put, "u", read("[x] [y] (y x)"))
        self.refused(self.book.put, "up", read("[f] (f all)"))
        self.book.put("up", read("[f] ((f all) up)"))
        self.assertEqual(self.book.why("up"), ("ring", ("up",)))

    def test_a_kind_that_grows_below(self):
        self.book.put("all", read("[f] (((f p) q) r)"))
        self.refused(self.book.put, "p", read("[y] (y q)"))
        self.book.put("p", Program(SELF))
        self.assertEqual(len(self.book.kind("all").words), 3999 - 1331 + 3)
        self.book.put("qq", Program(GREAT))
        self.book.put("s", read("[f] (f qq)"))
        self.refused(self.book.put, "p", read("s"))
        self.book.undo()
        self.book.undo()
        self.book.undo()
        self.assertEqual(len(self.book.kind("all").words), 3999)

    def test_entries_that_double(self):
        book = self.book = filled_book(("e", "[x] x"))
        last = "e"
        with self.assertRaises(TooMany):
            for sign in "abcdefghijklmnopqrstuvwxyz":
                book.put("one" + sign, Program((last,)))
                book.put("two" + sign, Program((last,)))
                book.put("both" + sign, read(f"[f] ((f one{sign}) two{sign})"))
                last = "both" + sign
        self.assertEqual(last, "bothh")
        self.assertEqual(len(book.kind(last).words), 2043)
        self.refused(book.put, "bothi", read("[f] ((f onei) twoi)"))
        # From the other end: it is refused only with the entry by which all are whole.
        self.book = Book()
        for sign, before in reversed(list(zip("bcdefghijklmnopqrstuvwxyz", "abcdefghijklmnopqrstuvwxy"))):
            for name in ("one", "two"):
                self.book.put(name + sign, Program(("both" + before,)))
            self.book.put("both" + sign, read(f"[f] ((f one{sign}) two{sign})"))
        self.assertEqual(self.book.order(), [])
        self.refused(self.book.put, "botha", Program(SELF))
        self.book.drop("bothj")
        self.book.put("botha", Program(SELF))
        self.assertEqual(len(self.book.kind("bothi").words), 8 * 2 ** 8 - 5)
        self.refused(self.book.put, "bothj", Program(("bothi",)))

    def test_no_name_and_no_program_come_first(self):
        great = applied(Program(GREAT), Program(SELF))
        self.book.put("all", read("[f] (((f p) q) r)"))
        with self.assertRaises(NoName):
            self.book.put("", read("[f] (f all)"))
        with self.assertRaises(NoProgram):
            self.book.put("more", applied(great, read("all")))


class DrawnTest(unittest.TestCase):

    def test_drawn_books(self):
        for seed in range(16):
            self.drawn_book(seed, 45)

    def drawn_book(self, seed, steps):
        """Do drawn deeds, and hold all that the book tells against all states in full."""
        drawn = draws(seed * 7919 + 1)
        book, history = Book(), History()
        for _ in range(steps):
            self.drawn_deed(drawn, book, history)
            self.look(book, history)
        self.look_at_ends(book, history)

    def drawn_deed(self, drawn, book, history):
        """Do one deed, undo or redo."""
        choice, name = next(drawn) % 10, NAMES[next(drawn) % len(NAMES)]
        if choice == 0 and history.point > 0:
            book.undo()
            history.undo()
        elif choice == 1 and history.point + 1 < len(history.states):
            book.redo()
            history.redo()
        elif choice == 2 and name in history.now().entries:
            book.drop(name)
            history.drop(name)
        else:
            words = POOL[next(drawn) % (len(POOL) if choice > 4 else CLOSED)]
            book.put(name, Program(words))
            history.put(name, words)

    def look(self, book, history):
        """Hold a book against a history."""
        look_at(self, book, history.now())
        self.assertEqual(book.version(), history.point)
        self.assertEqual((book.changed(), book.worked()), (history.changed, history.worked))
        self.assertEqual(book.journal(), history.journal)
        for name in NAMES + ("zz",):
            self.assertEqual(book.users(name), history.now().users(name))

    def look_at_ends(self, book, history):
        """Hold books by at, and copies that go to both ends, against a history."""
        many = history.point
        for version in range(0, many + 1, 5):
            other = book.at(version)
            state = history.states[version]
            look_at(self, other, state)
            self.assertEqual((other.version(), other.changed(), other.worked()), (0, [], []))
            self.assertEqual(other.journal(), snapshot_of(state))
            self.assertEqual(book.differing(version, many), history.differing(version, many))
            self.assertEqual(book.differing(many, version), history.differing(version, many))
            self.assertEqual(book.differing(version, many // 2), history.differing(version, many // 2))
            with self.assertRaises(NothingDone):
                other.undo()
        before = told(book)
        other = book.copy()
        self.assertEqual(told(other), before)
        while history.point > 0:
            other.undo()
            history.undo()
            self.look(other, history)
        while history.point + 1 < len(history.states):
            other.redo()
            history.redo()
            self.look(other, history)
        self.assertEqual(told(book), before)


class CopyTest(unittest.TestCase):

    def test_copies_go_on_apart(self):
        book = filled_book(("f", "[x] (g x)"), ("g", "[y] y"))
        book.put("g", read("[y] [z] (y z)"))
        book.undo()
        before = told(book)
        other = book.copy()
        self.assertEqual(told(other), before)
        other.redo()
        self.assertEqual(other.journal(), book.journal() + sealed("redo"))
        other.drop("f")
        self.assertEqual(told(book), before)
        book.redo()
        book.put("h", Program(("g",)))
        self.assertEqual((other.names(), book.names()), (["g"], ["f", "g", "h"]))
        other.undo()
        self.assertEqual(other.names(), ["f", "g"])
        self.assertEqual(other.copy().version(), 3)

    def test_what_is_by_at_goes_on_apart(self):
        book = filled_book(("f", "[x] (g x)"), ("g", "[y] y"))
        other = book.at(1)
        other.put("g", read("[y] [z] (y z)"))
        self.assertEqual((other.changed(), other.version()), (["f", "g"], 1))
        self.assertEqual(kind_text(book.kind("f")), "a > a")
        book.drop("f")
        self.assertEqual(other.names(), ["f", "g"])
        self.assertEqual(other.at(0).names(), ["f"])
        self.assertEqual(other.at(0).why("f"), ("lacking", "g"))

    def test_books_behind_an_undo(self):
        book = filled_book(("f", "[x] x"), ("f", "[x] [y] (x y)"), ("f", "[x] [y] (y x)"))
        book.undo()
        self.assertEqual(book.version(), 2)
        with self.assertRaises(NoNumber):
            book.at(3)
        with self.assertRaises(NoNumber):
            book.differing(0, 3)
        self.assertEqual((book.differing(0, 2), book.differing(1, 1)), (["f"], []))
        book.put("g", Program(("f",)))
        self.assertEqual((book.version(), book.differing(2, 3)), (3, ["g"]))
        self.assertEqual(kind_text(book.at(3).kind("g")), "(a > b) > a > b")

    def test_the_model_is_held_up(self):
        # Two states of which all is known by hand, so that the model itself is not off.
        state = State({"a": ("/x", "@", "b", "x"), "b": ("/y", "y"), "c": ("c",), "d": ("@", "a", "zz")})
        self.assertEqual((state.kind("a"), state.kind("c"), state.kind("d")), ((">", 0, 0), None, None))
        self.assertEqual((state.order(), state.lacking("d"), state.rest("a")), (["b", "a"], ["zz"], ("/a", "a")))


if __name__ == "__main__":
    unittest.main()
