"""[11.1] Deals, which a book gets all at once or not at all."""

import unittest

from oncekinds.books import Book
from oncekinds.deals import Deal
from oncekinds.errors import Ended, KindError, NoName, NoProgram, TooMany, Unknown
from oncekinds.naming import applied
from oncekinds.programs import Program
from oncekinds.texts import kind_text, read
from tests.book_model import CLOSED, NAMES, POOL, History, look_at, sealed
from tests.samples import draws, things
from tests.test_books import GREAT, SELF, filled_book, told

ASKS = ("names", "program", "kind", "rest", "uses", "users", "order")


def ask(holder, word, name):
    """Return what an ask tells, or the class of the error that it raises."""
    try:
        return getattr(holder, word)() if word in ("names", "order") else getattr(holder, word)(name)
    except KindError as error:
        return type(error)


def asked_of(state, word, name):
    """Return what an ask of a state is told, worked out from the meanings; words for Programs and Kinds."""
    if word == "names":
        return sorted(state.entries)
    if word == "order":
        return state.order()
    if word == "users":
        return state.users(name)
    if name not in state.entries:
        return Unknown
    return state.entries[name] if word == "program" else getattr(state, word)(name)


def worded(thing):
    """Return the words of a Program or a Kind, and any other thing itself."""
    return thing.words if hasattr(thing, "words") else thing


class DealTest(unittest.TestCase):

    def setUp(self):
        self.book = filled_book(("f", "[x] (g x)"), ("g", "[y] y"), ("h", "(f k)"))

    def test_it_goes_on_apart(self):
        deal = self.book.deal()
        self.assertIs(type(deal), Deal)
        self.assertEqual((deal.deeds(), deal.asked()), (0, 0))
        before = told(self.book)
        self.assertIsNone(deal.put("k", read("[z] z")))
        self.assertIsNone(deal.drop("g"))
        self.assertIsNone(deal.put("g", read("[x] [y] (x y)")))
        self.assertEqual(told(self.book), before)
        self.assertEqual((deal.names(), deal.order()), (["f", "g", "h", "k"], ["g", "f", "k", "h"]))
        self.assertEqual((kind_text(deal.kind("f")), deal.why("h"), deal.uses("h")), ("(a > b) > a > b", None, ["f", "k"]))
        self.assertEqual((deal.users("k"), deal.program("g").words), (["h"], ("/x", "/y", "@", "x", "y")))
        self.assertEqual(deal.rest("h").words, ("/a", "a"))
        self.book.drop("f")
        self.assertEqual(deal.names(), ["f", "g", "h", "k"])
        self.assertEqual((deal.deeds(), type(deal.deeds()), type(deal.asked())), (3, int, int))

    def test_what_is_counted(self):
        deal = self.book.deal()
        for at, word in enumerate(ASKS):
            ask(deal, word, "f")
            self.assertEqual((deal.deeds(), deal.asked()), (0, at + 1))
        for word in ("program", "kind", "rest", "uses"):
            self.assertIs(ask(deal, word, "zz"), Unknown)
        self.assertIs(ask(deal, "users", "ZZ"), NoName)
        self.assertEqual((deal.deeds(), deal.asked()), (0, 12))
        self.assertEqual(deal.why("h"), ("lacking", "k"))
        with self.assertRaises(Unknown):
            deal.why("zz")
        self.assertEqual((deal.deeds(), deal.asked()), (0, 12))
        deal.put("k", Program(SELF))
        deal.drop("k")
        self.assertEqual((deal.deeds(), deal.asked()), (2, 12))
        wrong = ((NoName, deal.put, ("", None)), (NoProgram, deal.put, ("k", None)), (Unknown, deal.drop, ("k",)))
        for error, call, row in wrong:
            with self.assertRaises(error):
                call(*row)
        self.assertEqual((deal.deeds(), deal.asked()), (2, 12))

    def test_a_commit_is_one_deed(self):
        deal = self.book.deal()
        deal.put("k", Program(SELF))
        deal.put("g", read("[x] [y] (x y)"))
        deal.put("u", Program(("h",)))
        deal.drop("u")
        journal = self.book.journal()
        self.assertIs(deal.commit(), True)
        book = self.book
        self.assertEqual((book.version(), book.names()), (4, ["f", "g", "h", "k"]))
        self.assertEqual((book.changed(), book.worked()), (["f", "g", "h", "k"], ["f", "g", "h", "k"]))
        lines = ["deal 4", "put k [x] x", "put g [x] [y] (x y)", "put u h", "drop u"]
        self.assertEqual(book.journal(), journal + "".join(sealed(line) for line in lines))
        book.undo()
        self.assertEqual((book.names(), book.version()), (["f", "g", "h"], 3))
        self.assertEqual((book.changed(), book.worked()), (["f", "g", "h", "k"], ["f", "g"]))
        self.assertEqual(book.why("h"), ("lacking", "k"))
        book.redo()
        self.assertEqual((book.changed(), book.order()), (["f", "g", "h", "k"], ["g", "f", "k", "h"]))
        self.assertEqual((book.differing(3, 4), book.at(3).names()), (["f", "g", "h", "k"], ["f", "g", "h"]))

    def test_what_is_done_and_taken_back_touches(self):
        deal = self.book.deal()
        program = self.book.program("g")
        deal.drop("g")
        deal.put("g", program)
        deal.commit()
        self.assertEqual((self.book.version(), self.book.changed(), self.book.worked()), (4, [], ["g"]))

    def test_a_commit_without_deeds(self):
        self.book.put("k", Program(SELF))
        self.book.undo()
        before = told(self.book)
        deal = self.book.deal()
        for word in ASKS:
            ask(deal, word, "f")
        self.assertIs(deal.commit(), True)
        self.assertEqual(told(self.book), before)
        self.book.redo()
        self.assertIs(self.book.deal().commit(), True)
        deal = self.book.deal()
        deal.kind("h")
        self.book.drop("k")
        before = told(self.book)
        self.assertIs(deal.commit(), False)
        self.assertEqual(told(self.book), before)

    def test_a_commit_behind_an_undo(self):
        self.book.undo()
        deal = self.book.deal()
        deal.drop("g")
        self.assertIs(deal.commit(), True)
        self.assertEqual(self.book.version(), 3)
        with self.assertRaises(KindError):
            self.book.redo()

    def test_ended(self):
        for end in ("commit", "leave", "refused"):
            deal = self.book.deal()
            deal.put("z", Program(SELF))
            deal.drop("z")
            deal.names()
            if end == "leave":
                self.assertIsNone(deal.leave())
            elif end == "commit":
                self.assertIs(deal.commit(), True)
            else:
                self.book.put("other", Program(SELF))
                self.assertIs(deal.commit(), False)
            before = told(self.book)
            calls = [(word, ()) for word in ("names", "order", "commit", "leave")]
            calls += [(word, (name,)) for word in ("drop", "program", "kind", "rest", "why", "uses", "users")
                      for name in ("f", "zz", "", None, [])]
            calls += [("put", (name, program)) for name in ("f", "", None) for program in (Program(SELF), None)]
            for word, row in calls:
                with self.assertRaises(Ended, msg=word) as caught:
                    getattr(deal, word)(*row)
                self.assertIsInstance(caught.exception, KindError)
            self.assertEqual((deal.deeds(), deal.asked()), (2, 1))
            self.assertEqual(told(self.book), before)

    def test_leave_gives_nothing(self):
        before = told(self.book)
        deal = self.book.deal()
        deal.put("f", Program(SELF))
        deal.drop("g")
        deal.leave()
        self.assertEqual(told(self.book), before)

    def test_errors(self):
        deal = self.book.deal()
        for thing in things() + ["k", "", "F", ("f",), ["f"]]:
            for word in ("drop", "program", "kind", "rest", "why", "uses"):
                with self.assertRaises(Unknown) as caught:
                    getattr(deal, word)(thing)
                self.assertIs(caught.exception.name, thing)
            if thing not in ("a", "x", "k"):
                for call, row in ((deal.users, (thing,)), (deal.put, (thing, Program(SELF))), (deal.put, (thing, thing))):
                    with self.assertRaises(NoName):
                        call(*row)
            if not isinstance(thing, Program):
                with self.assertRaises(NoProgram):
                    deal.put("f", thing)
        with self.assertRaises(NoProgram):
            deal.put("f", applied(Program(GREAT), Program(SELF)))
        self.assertEqual(deal.deeds(), 0)
        # All those asks are told likewise by the book.
        self.assertIs(deal.commit(), True)

    def test_lists_are_new(self):
        deal = self.book.deal()
        for word in ("names", "order", "uses", "users"):
            row = ask(deal, word, "f" if word == "uses" else "g")
            self.assertTrue(row)
            row.append("zz")
            row.sort(reverse=True)
        deal.put("z", Program(SELF))
        self.assertIs(deal.commit(), True)

    def test_too_many(self):
        for name in ("p", "q"):
            self.book.put(name, Program(GREAT))
        deal = self.book.deal()
        deal.put("r", Program(GREAT))
        deal.put("all", read("[f] (((f p) q) r)"))
        before = deal.names(), deal.kind("all").words, deal.deeds()
        with self.assertRaises(TooMany) as caught:
            deal.put("more", read("[f] (f all)"))
        self.assertEqual(caught.exception.most, 4000)
        self.assertEqual((deal.names(), deal.kind("all").words, deal.deeds()), before)
        other = self.book.deal()
        other.put("s", read("[f] (f p)"))
        self.assertIs(deal.commit(), True)
        self.assertIs(other.commit(), True)

    def test_a_put_that_would_raise_then(self):
        for name in ("p", "q", "r"):
            self.book.put(name, Program(GREAT))
        deal = self.book.deal()
        deal.put("all", read("[f] (((f p) q) r)"))
        # In between it would be too long, though it isn't at the end.
        deal.drop("all")
        self.book.put("p", read("[f] (f q)"))
        before = told(self.book)
        self.assertIs(deal.commit(), False)
        self.assertEqual(told(self.book), before)

    def test_a_drop_that_would_raise_then(self):
        deal = self.book.deal()
        deal.put("z", Program(SELF))
        deal.drop("g")
        self.book.drop("g")
        before = told(self.book)
        self.assertIs(deal.commit(), False)
        self.assertEqual(told(self.book), before)

    def test_asks_that_are_told_otherwise(self):
        changes = {
            "names": lambda book: book.put("new", Program(SELF)),
            "program": lambda book: book.put("g", read("[z] z")),
            "kind": lambda book: book.put("g", read("[x] [y] (x y)")),
            "rest": lambda book: book.put("g", read("[x] [y] (x y)")),
            "uses": lambda book: book.put("g", read("[y] (y f)")),
            "users": lambda book: book.put("new", Program(("g",))),
            "order": lambda book: book.put("a", Program(SELF)),
        }
        for word, change in changes.items():
            book = filled_book(("f", "[x] (g x)"), ("g", "[y] y"), ("h", "(f k)"))
            deal, other, blind = book.deal(), book.deal(), book.deal()
            ask(deal, word, "g")
            ask(other, word, "zz")
            blind.why("g")
            for one in (deal, other, blind):
                one.put("z", Program(SELF))
            change(book)
            self.assertIs(deal.commit(), False, word)
            self.assertNotIn("z", book.names())
            self.assertIs(other.commit(), word not in ("names", "order"))
            self.assertIs(blind.commit(), True)
            self.assertIn("z", book.names())

    def test_what_is_asked_ahead_of_a_put_and_behind_it(self):
        deal, other = self.book.deal(), self.book.deal()
        deal.put("g", read("[x] [y] (x y)"))
        deal.kind("f")
        other.kind("f")
        other.put("g", read("[x] [y] (x y)"))
        self.book.put("g", read("[x] [y] (y x)"))
        # Behind its own put the first one is told the same, whatever was put in between.
        self.assertIs(deal.commit(), True)
        self.book.undo()
        self.assertIs(other.commit(), False)

    def test_another_error_or_none(self):
        for word in ("program", "kind", "rest", "uses"):
            book = filled_book(("f", "[x] x"))
            deal, other = book.deal(), book.deal()
            ask(deal, word, "new")
            ask(other, word, "f")
            deal.put("z", Program(SELF))
            other.put("z", Program(SELF))
            book.put("new", Program(SELF))
            book.drop("f")
            self.assertIs(deal.commit(), False)
            self.assertIs(other.commit(), False)
            self.assertEqual(book.names(), ["new"])
            book.drop("new")
            deal = book.deal()
            self.assertIs(ask(deal, word, "new"), Unknown)
            book.put("y", Program(SELF))
            self.assertIs(deal.commit(), True)

    def test_programs_that_are_equal_are_told_the_same(self):
        deal = self.book.deal()
        deal.program("g")
        deal.put("z", Program(SELF))
        self.book.drop("g")
        self.book.put("g", read("[y] y"))
        self.assertIs(deal.commit(), True)

    def test_deals_of_copies(self):
        deal = self.book.deal()
        deal.put("z", Program(SELF))
        other = self.book.copy()
        self.assertIs(deal.commit(), True)
        self.assertEqual((self.book.names(), other.names()), (["f", "g", "h", "z"], ["f", "g", "h"]))


class DrawnTest(unittest.TestCase):

    def test_drawn_deals(self):
        many = {True: 0, False: 0}
        for seed in range(14):
            for told_true in self.drawn_deals(seed):
                many[told_true] += 1
        self.assertTrue(min(many.values()) > 20, many)

    def drawn_deals(self, seed):
        """Do several deals at once, with deeds of the book between; return the list of what the commits told."""
        drawn = draws(seed * 104729 + 5)
        book, history = Book(), History()
        for name in NAMES[:3]:
            self.put(drawn, book, history, name)
        deals, commits, kept = [], [], []
        for _ in range(110):
            choice, name = next(drawn) % 30, NAMES[next(drawn) % len(NAMES)]
            if choice < 2:
                self.put(drawn, book, history, name)
            elif choice < 3 and history.point:
                book.undo()
                history.undo()
            elif choice < 6 and len(deals) < 4:
                deals.append((book.deal(), history.now(), [], [history.now()]))
            elif deals:
                at = next(drawn) % len(deals)
                if choice < 9:
                    commits.append(self.end(book, history, deals.pop(at), kept))
                else:
                    self.work(drawn, deals[at], name)
            look_at(self, book, history.now())
        self.assertEqual((book.changed(), book.worked()), (history.changed, history.worked))
        self.assertEqual(book.journal(), history.journal)
        return commits

    def put(self, drawn, book, history, name):
        """Put a drawn program into a book."""
        words = POOL[next(drawn) % CLOSED]
        book.put(name, Program(words))
        history.put(name, words)

    def work(self, drawn, row, name):
        """Do one thing to a deal, and hold what it tells against the state that it has come to."""
        deal, _, notes, states = row
        choice = next(drawn) % 12
        if choice < 3:
            words = POOL[next(drawn) % (len(POOL) if choice else CLOSED)]
            deal.put(name, Program(words))
            notes.append(("put", name, words))
            states.append(states[-1].edited(name, words))
        elif choice < 4 and name in states[-1].entries:
            deal.drop(name)
            notes.append(("drop", name, None))
            states.append(states[-1].edited(name, None))
        else:
            word = ASKS[next(drawn) % len(ASKS)]
            answer = worded(ask(deal, word, name))
            self.assertEqual(answer, asked_of(states[-1], word, name))
            notes.append((word, name, answer))
        changes = sum(word in ("put", "drop") for word, _, _ in notes)
        self.assertEqual((deal.deeds(), deal.asked()), (changes, len(notes) - changes))

    def end(self, book, history, row, kept):
        """Commit a deal, and hold what it told against the notes done once more; return it."""
        deal, _, notes, _ = row
        state, changes, right = history.now(), [], True
        for word, name, thing in notes:
            if word in ("put", "drop"):
                right = right and (word == "put" or name in state.entries)
                state = state.edited(name, thing)
                changes.append((name, thing))
            else:
                right = right and asked_of(state, word, name) == thing
        before = book.version()
        told_true = deal.commit()
        self.assertIs(told_true, right)
        if right and changes:
            history.commit(changes)
        self.assertEqual(book.version(), before + (right and bool(changes)))
        with self.assertRaises(Ended):
            deal.commit()
        return told_true


if __name__ == "__main__":
    unittest.main()
