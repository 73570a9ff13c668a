"""[12.1] and [12.2] Journals, snapshots and books made one of two."""

import unittest

from oncekinds.books import Book
from oncekinds.errors import KindError, NoText, NothingDone, TooMany
from oncekinds.journals import merged, recovered, snapshot
from oncekinds.naming import renamed, same
from oncekinds.programs import Program
from oncekinds.texts import read
from tests.book_model import CLOSED, NAMES, POOL, History, look_at, sealed, snapshot_of
from tests.samples import draws, fresh, things
from tests.test_books import GREAT, SELF, filled_book, told


def journal_of(*lines):
    """Return a journal of these lines, with their checks."""
    return "".join(sealed(line) for line in lines)


def worked_book():
    """Return a Book with deeds of all sorts, taken back and done again."""
    book = filled_book(("f", "[x] (g x)"), ("g", "[y] y"))
    book.undo()
    book.redo()
    deal = book.deal()
    deal.put("h", read("(f k)"))
    deal.put("k", read("[x] [y] (x y)"))
    deal.drop("g")
    deal.commit()
    book.undo()
    book.undo()
    book.put("g", read("[z] ([u] u z)"))
    book.drop("f")
    return book


LINES = ["put f [x] (g x)", "put g [y] y", "undo", "redo", "deal 3", "put h (f k)", "put k [x] [y] (x y)", "drop g", "undo",
         "undo", "put g [z] ([u] u z)", "drop f"]
# How many lines the records of these have.
RECORDS = [1, 1, 1, 1, 4, 1, 1, 1, 1]


class JournalTest(unittest.TestCase):

    def test_by_hand(self):
        # For "undo" it is 1 * 117 + 2 * 110 + 3 * 100 + 4 * 111.
        book = filled_book(("a", "a"))
        self.assertEqual(book.journal(), "put a a #2178\n")
        book.undo()
        self.assertEqual(book.journal(), "put a a #2178\nundo #1081\n")
        book.redo()
        book.drop("a")
        book.deal().commit()
        deal = book.deal()
        deal.put("b", Program(SELF))
        deal.commit()
        self.assertEqual(book.journal(), "put a a #2178\nundo #1081\nredo #1060\ndrop a #1851\ndeal 1 #1479\nput b [x] x #5578\n")

    def test_checks_of_long_lines(self):
        # The codes of the letters alone come to more than 9973.
        book = filled_book(("abcdefgh", "[zzzzzzzz] (zzzzzzzz (yyyyyyyy xxxxxxxx))"))
        line = "put abcdefgh [zzzzzzzz] (zzzzzzzz (yyyyyyyy xxxxxxxx))"
        whole = 0
        for at in range(len(line)):
            whole += (at + 1) * ord(line[at])
        self.assertEqual(book.journal(), f"{line} #{whole - whole // 9973 * 9973}\n")
        self.assertGreater(whole, 100000)

    def test_all_sorts_of_records(self):
        self.assertEqual(worked_book().journal(), journal_of(*LINES))

    def test_of_a_book_by_at(self):
        book = worked_book()
        for version in range(book.version() + 1):
            other = book.at(version)
            self.assertEqual(other.journal(), snapshot(other))
            other.put("zz", Program(SELF))
            other.undo()
            self.assertEqual(other.journal(), snapshot(book.at(version)) + journal_of("put zz [x] x", "undo"))
        self.assertEqual(Book().at(0).journal(), "")

    def test_of_a_copy(self):
        book = worked_book()
        other = book.copy()
        other.undo()
        self.assertEqual(other.journal(), book.journal() + journal_of("undo"))
        book.drop("g")
        self.assertEqual(book.journal(), journal_of(*LINES, "drop g"))

    def test_text_as_it_was_put(self):
        program = renamed(read("[x] [y] (x (y g))"), {"x": "abcdefgh", "y": "zz", "g": "h"})
        book = Book()
        book.put("f", program)
        self.assertEqual(book.journal(), journal_of("put f [abcdefgh] [zz] (abcdefgh (zz h))"))


class RecoveredTest(unittest.TestCase):

    def look(self, journal, lines):
        """Look at what is recovered: it must be a book to which just these many lines lead."""
        pair = recovered(journal)
        self.assertEqual((type(pair), len(pair), type(pair[0]), type(pair[1])), (tuple, 2, Book, int))
        rows = journal.split("\n")
        self.assertEqual(pair[1], sum(len(row) + 1 for row in rows[:lines]), journal[:200])
        self.assertEqual(pair[0].journal(), journal[:pair[1]])
        return pair[0]

    def test_the_whole_journal(self):
        book = worked_book()
        other = self.look(book.journal(), len(LINES))
        self.assertEqual(told(other), told(book))
        self.assertEqual(self.look("", 0).names(), [])
        for one in (book, other):
            one.undo()
            one.undo()
            one.redo()
        self.assertEqual(told(other), told(book))
        for version in range(book.version() + 1):
            self.assertEqual(told(other.at(version)), told(book.at(version)))

    def test_cut_at_each_place(self):
        book = worked_book()
        journal = book.journal()
        ends, line, seen = [0], 0, 0
        for many in RECORDS:
            line += many
            ends.append(sum(len(sealed(row)) for row in LINES[:line]))
        for cut in range(len(journal) + 1):
            other, many = recovered(journal[:cut])
            self.assertEqual(many, max(end for end in ends if end <= cut))
            self.assertEqual(other.journal(), journal[:many])
            seen += many == cut
        self.assertEqual(seen, len(ends))

    def test_each_cut_leads_to_the_book_as_it_was(self):
        # The eleventh fact.
        book, states = Book(), []
        for step in (lambda: book.put("f", read("[x] (g x)")), lambda: book.put("g", Program(SELF)), book.undo, book.redo,
                     lambda: book.put("g", read("[x] [y] (y x)")), lambda: book.drop("f"), book.undo, book.undo,
                     lambda: book.put("f", Program(("g",)))):
            states.append(told(book))
            step()
        states.append(told(book))
        for state in states:
            other = self.look(state[-1] + "put", state[-1].count("\n"))
            self.assertEqual(told(other), state)

    def test_signs_that_are_changed(self):
        journal = journal_of(*LINES)
        begins = [0]
        for many in RECORDS:
            begins.append(begins[-1] + many)
        for at, sign in enumerate(journal):
            line = journal[:at].count("\n")
            whole = max(begin for begin in begins if begin <= line)
            for other in "a 0#\n~z9":
                if other != sign:
                    self.look(journal[:at] + other + journal[at + 1:], whole)
            self.look(journal[:at] + journal[at + 1:], whole)

    def test_lines_left_out_twice_and_exchanged(self):
        rows = [sealed(line) for line in ("put f [x] (g x)", "put g [y] y", "drop g", "undo", "drop f", "redo")]
        # Behind the drop of f there is nothing to be done again.
        self.look("".join(rows), 5)
        self.look("".join(rows[:1] + rows[2:]), 1)
        self.look("".join(rows[:2] + rows[3:]), 4)
        self.look("".join(rows[:1] + rows[:1] + rows[1:5]), 6)
        self.look("".join(rows[:3] + rows[2:]), 3)
        self.look("".join([rows[2], rows[1]]), 0)
        self.look("".join([rows[1], rows[0], rows[2], rows[3], rows[4], rows[5]]), 5)
        self.look(rows[3], 0)
        self.look(rows[5], 0)

    def test_checks(self):
        line = "put f [x] x"
        right = sealed(line)
        check = right.split("#")[1][:-1]
        self.look(right, 1)
        for wrong in ("0" + check, str(int(check) + 9973), str(int(check) - 9973), check + " ", " " + check, "+" + check,
                      str(int(check) + 1), "", "9" * 5000, check + "\r", check + check):
            self.look(f"{line} #{wrong}\n", 0)
        for wrong in (right.replace(" #", "#"), right.replace(" #", "  #"), right.replace("#", ""), right[:-1],
                      right.replace("\n", " \n"), right.replace("#", "# "), right.replace(" #", " # #"), "\n" + right, " " + right):
            self.look(wrong, 0)
        self.look(right + "\n" + right, 1)
        self.look(right + right, 2)

    def test_lines_of_a_wrong_form(self):
        for line in ("", " ", "put", "put f", "put f ", "put f  [x] x", "put  f [x] x", "put F [x] x", "put abcdefghi x", "put f [x] x ",
                     " put f [x] x", "Put f [x] x", "put f [x] y", "put f (x x)", "put f [x]", "put f #", "drop", "drop ", "drop f",
                     "drop zz", "drop g ", "drop  g", "drop g g", "drop G", "undo ", " undo", "undo g", "undo undo", "redo ", "redo",
                     "deal", "deal ", "deal 0", "deal x", "deal 1 ", "deal -1", "show g", "names", "put g", "kind g", "#", "drop g #"):
            journal = journal_of("put g [y] y", line, "undo")
            self.look(journal, 1)
        self.look(journal_of("put g [y] y", "drop g", "undo", "redo", "undo"), 5)

    def test_deals(self):
        first = "put a [x] x"
        rows = ["put b a", "drop a", "put a b"]
        self.look(journal_of(first, "deal 3", *rows, "undo", "redo"), 7)
        for number in ("0", "00", "03", "003", "4", "30", "+3", "3.", "", " 3", "three", "3 ", "9" * 30, "9" * 5000, "1e1", "-3"):
            self.look(journal_of(first, f"deal {number}", *rows), 1)
        # With fewer told, what stands behind them is done by itself.
        self.look(journal_of(first, "deal 2", *rows), 5)
        self.assertEqual(self.look(journal_of(first, "deal 1", *rows), 5).version(), 4)
        self.assertEqual(self.look(journal_of(first, "deal 3", *rows), 5).version(), 2)
        for wrong in ("undo", "redo", "deal 1", "drop zz", "put c (x x)", "put c [x]", "names", ""):
            for at in range(3):
                self.look(journal_of(first, "deal 3", *rows[:at], wrong, *rows[at + 1:]), 1)
        self.look(journal_of(first, "deal 3", *rows[:2]), 1)
        self.look(journal_of(first, "deal 1"), 1)
        self.look(journal_of("deal 1", "undo"), 0)
        journal = journal_of(first, "deal 3", *rows)
        self.look(journal.replace("drop a #", "drop a  #"), 1)

    def test_a_deal_that_would_raise_does_nothing(self):
        book = self.look(journal_of("put a [x] x", "deal 2", "put a [x] [y] (x y)", "drop b"), 1)
        self.assertEqual((book.program("a").words, book.version()), (SELF, 1))
        with self.assertRaises(NothingDone):
            book.redo()

    def test_puts_that_would_be_too_many(self):
        great = read_back(Program(GREAT))
        rows = [f"put {name} {great}" for name in "pqr"] + ["put all [f] (((f p) q) r)"]
        self.look(journal_of(*rows), 4)
        self.look(journal_of(*rows, "put more [f] (f all)"), 4)
        self.look(journal_of(*rows, "put more all", "put more [x] (all x)"), 6)
        self.look(journal_of(*rows, "deal 2", "put more [f] (f all)", "drop more"), 4)
        long = "(" * 500 + " ".join([fresh(600)[0]] + [name + ")" for name in fresh(501)[1:]])
        self.look(journal_of("put a " + long, "put b [x] x"), 0)
        self.assertEqual(long.count("("), long.count(")"))

    def test_no_text(self):
        for thing in things():
            if not isinstance(thing, str):
                with self.subTest(thing=repr(thing)[:60]):
                    with self.assertRaises(NoText) as caught:
                        recovered(thing)
                    self.assertIsInstance(caught.exception, KindError)
            else:
                self.assertEqual(recovered(thing)[1], 0)

    def test_of_a_book_by_at(self):
        book = worked_book()
        for version in range(book.version() + 1):
            one = book.at(version)
            one.put("zz", Program(("g",)))
            one.undo()
            one.put("f", Program(SELF))
            other, many = recovered(one.journal())
            self.assertEqual((many, other.journal()), (len(one.journal()), one.journal()))
            self.assertEqual(other.version(), 1 + (version > 0))
            look_at(self, other, state_of(one))
            other.undo()
            self.assertEqual(other.names(), book.at(version).names())
            if version:
                other.undo()
                self.assertEqual(other.names(), [])

    def test_drawn_books(self):
        for seed in range(6):
            drawn = draws(seed + 77)
            book = Book()
            for _ in range(25):
                self.drawn_deed(drawn, book)
            journal = book.journal()
            other, many = recovered(journal)
            self.assertEqual((many, told(other)), (len(journal), told(book)))
            for cut in range(0, len(journal), 11):
                part, many = recovered(journal[:cut])
                self.assertTrue(many <= cut and part.journal() == journal[:many])
                again, many = recovered(part.journal())
                self.assertEqual(told(again), told(part))

    def drawn_deed(self, drawn, book):
        """Do one thing to a book."""
        choice, name = next(drawn) % 8, NAMES[next(drawn) % len(NAMES)]
        if choice == 0 and book.version():
            book.undo()
        elif choice == 1 and name in book.names():
            book.drop(name)
        elif choice < 4:
            deal = book.deal()
            for _ in range(next(drawn) % 4):
                deal.put(NAMES[next(drawn) % len(NAMES)], Program(POOL[next(drawn) % len(POOL)]))
            deal.commit()
        else:
            book.put(name, Program(POOL[next(drawn) % CLOSED]))


def read_back(program):
    """Return the text of a great program, told by hand."""
    names = [word[1:] for word in program.words if word[0] == "/"]
    begin = "".join(f"[{name}] " for name in names) + "(" * (len(names) - 1) + names[0]
    return begin + "".join(f" {name})" for name in names[1:])


def state_of(book):
    """Return the state that a book is in."""
    history = History()
    for name in book.names():
        history.put(name, book.program(name).words)
    return history.now()


class SnapshotTest(unittest.TestCase):

    def test_some_books(self):
        self.assertEqual(snapshot(Book()), "")
        book = filled_book(("g", "[y] y"), ("f", "[x] (g x)"), ("b", "zz"))
        self.assertEqual(snapshot(book), journal_of("deal 3", "put b zz", "put f [x] (g x)", "put g [y] y"))
        for name in "gfb":
            book.drop(name)
        self.assertEqual(snapshot(book), "")

    def test_it_leads_to_the_book(self):
        for seed in range(10):
            drawn = draws(seed + 900)
            book = Book()
            for name in NAMES:
                book.put(name, Program(POOL[next(drawn) % len(POOL)]))
            before = told(book)
            text = snapshot(book)
            self.assertEqual(text, snapshot_of(state_of(book)))
            other, many = recovered(text)
            self.assertEqual((many, other.version(), told(other)[:3]), (len(text), 1, told(book)[:3]))
            self.assertEqual(told(book), before)

    def test_users_of_great_ones_may_come_first(self):
        book = Book()
        for name in ("p", "q", "r"):
            book.put(name, Program(GREAT))
        book.put("a", read("[f] (((f p) q) r)"))
        other, many = recovered(snapshot(book))
        self.assertEqual((many, len(other.kind("a").words)), (len(snapshot(book)), 3999))


class MergedTest(unittest.TestCase):

    def test_some_books(self):
        one = filled_book(("f", "[x] (g x)"), ("g", "[y] y"))
        other = filled_book(("f", "[a] a"), ("h", "(f g)"))
        rows = told(one), told(other)
        pair = merged(one, other)
        self.assertEqual((type(pair), len(pair), type(pair[0]), type(pair[1])), (tuple, 2, Book, list))
        book, clashes = pair
        # Both are whole, and of the kind a > a.
        self.assertEqual((book.names(), clashes), (["f", "g", "h"], []))
        self.assertEqual(book.program("f"), one.program("f"))
        self.assertEqual((book.version(), book.changed(), book.worked(), book.order()), (0, [], [], ["g", "f", "h"]))
        self.assertEqual(book.journal(), snapshot(book))
        with self.assertRaises(NothingDone):
            book.undo()
        book.drop("g")
        self.assertEqual((told(one), told(other)), rows)
        self.assertEqual(merged(other, one)[0].program("f").words, ("/a", "a"))

    def test_clashes(self):
        one = filled_book(("a", "[x] x"), ("b", "[x] [y] (x y)"), ("c", "(z zz)"), ("d", "[x] (q x)"), ("e", "[x] x"),
                          ("f", "p"), ("g", "[x] x"), ("i", "[x] (y x)"))
        other = filled_book(("a", "[y] y"), ("b", "[x] [y] (y x)"), ("c", "(zz z)"), ("d", "[r] (q r)"), ("e", "[x] (z x)"),
                            ("f", "[x] (p x)"), ("g", "([u] u [v] v)"), ("h", "[x] x"), ("i", "[x] (w x)"))
        self.assertEqual(merged(one, other)[1], ["b", "c", "e", "f", "i"])
        self.assertEqual(merged(other, one)[1], ["b", "c", "e", "f", "i"])
        self.assertEqual((merged(one, one)[1], merged(one, Book())[1], merged(Book(), one)[1]), ([], [], []))
        self.assertEqual(merged(one, one)[0].names(), one.names())

    def test_drawn_books(self):
        seen = {True: 0, False: 0}
        for seed in range(40):
            drawn = draws(seed + 4321)
            books = [Book(), Book()]
            for _ in range(2 + seed % 7):
                book = books[next(drawn) % 2]
                many = CLOSED if next(drawn) % 2 else len(POOL)
                book.put(NAMES[next(drawn) % len(NAMES)], Program(POOL[next(drawn) % many]))
            rows = [told(book) for book in books]
            states = [state_of(book) for book in books]
            book, clashes = merged(*books)
            self.assertEqual([told(one) for one in books], rows)
            whole = state_of(books[0])
            for name in books[1].names():
                if name not in whole.entries:
                    whole = whole.edited(name, states[1].entries[name])
            look_at(self, book, whole)
            self.assertEqual(book.journal(), snapshot_of(whole))
            expected = [name for name in books[0].names() if name in books[1].names()
                        and not same(books[0].program(name), books[1].program(name))
                        and (states[0].kind(name) is None or states[0].kind(name) != states[1].kind(name))]
            self.assertEqual(clashes, expected)
            seen[bool(clashes)] += 1
        self.assertTrue(min(seen.values()) > 5, seen)

    def test_it_goes_on(self):
        book, _ = merged(filled_book(("f", "[x] (g x)")), filled_book(("g", "[y] y")))
        book.put("h", Program(("f",)))
        book.undo()
        book.drop("g")
        other, many = recovered(book.journal())
        self.assertEqual((many, told(other)[:5], other.version()), (len(book.journal()), told(book)[:5], 2))

    def test_too_many(self):
        one, other = Book(), Book()
        for book, name in ((one, "p"), (one, "q"), (other, "r"), (one, "s")):
            book.put(name, Program(GREAT))
        other.put("s", Program(SELF))
        other.put("all", read("[f] ((((f p) q) r) s)"))
        rows = told(one), told(other)
        # With the first one's s it would have more words, with the other one's not.
        with self.assertRaises(TooMany) as caught:
            merged(one, other)
        self.assertEqual(caught.exception.most, 4000)
        self.assertIsInstance(caught.exception, KindError)
        self.assertEqual((told(one), told(other)), rows)
        other.put("all", read("[f] (((f p) r) s)"))
        self.assertEqual(len(merged(one, other)[0].kind("all").words), 3999)
        self.assertEqual(len(merged(other, one)[0].kind("all").words), 3999 - 1331 + 3)
        self.assertEqual(merged(other, one)[1], ["s"])

    def test_just_so_many(self):
        one, other = Book(), Book()
        for book, name in ((one, "p"), (one, "q"), (other, "r")):
            book.put(name, Program(GREAT))
        other.put("all", read("[f] (((f p) q) r)"))
        book, clashes = merged(one, other)
        self.assertEqual((len(book.kind("all").words), clashes), (3999, []))
        other.put("more", read("[f] (f all)"))
        for pair in ((one, other), (other, one)):
            with self.assertRaises(TooMany):
                merged(*pair)


if __name__ == "__main__":
    unittest.main()
