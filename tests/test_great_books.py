"""[0.3] and [0.5]: books of many entries, each using the one ahead of it, and of great programs."""

import unittest

from oncekinds.books import Book
from oncekinds.errors import NoProgram, TooMany
from oncekinds.journals import merged, recovered, snapshot
from oncekinds.kinds import Kind
from oncekinds.naming import applied, same
from oncekinds.programs import Program
from oncekinds.reading import program_of
from oncekinds.texts import read, text
from tests.low import LowTest
from tests.samples import SHAPES, applied_row, first_unlike, fresh, letterings, selves, selves_inside
from tests.kind_shapes import lefts
from tests.test_great_numbers import takes_ahead

MANY = 1050
SELF = ("/x", "x")
NAMES = ["n" + name for name in letterings(MANY)]
ROW = [Program(("/x", "@", NAMES[at - 1], "x")) if at else Program(SELF) for at in range(MANY)]


def long_book(turned):
    """Return a Book of entries each of which uses the one ahead of it, users put last, or first if it is turned."""
    book = Book()
    for at in reversed(range(MANY)) if turned else range(MANY):
        book.put(NAMES[at], ROW[at])
    return book


class LongBookTest(LowTest):

    def look_whole(self, book, words):
        """Look at a book of which all entries are whole and of one kind."""
        self.assertEqual(book.order(), NAMES)
        self.assertIsNone(book.why(NAMES[-1]))
        for at in (0, 1, 500, MANY - 1):
            self.assertEqual(book.kind(NAMES[at]).words, words)
            self.assertEqual(book.rest(NAMES[at]), program_of(book.kind(NAMES[0])))

    def test_users_last(self):
        book = long_book(False)
        self.look_whole(book, (">", 0, 0))
        self.assertEqual((book.changed(), book.worked()), ([NAMES[-1]], [NAMES[-1]]))
        self.assertEqual((book.uses(NAMES[9]), book.users(NAMES[9])), ([NAMES[8]], [NAMES[10]]))

    def test_users_first(self):
        book = long_book(True)
        self.look_whole(book, (">", 0, 0))
        self.assertEqual((book.changed(), book.worked()), (sorted(NAMES), sorted(NAMES)))
        book.undo()
        self.assertEqual((book.changed(), book.worked(), book.order()), (sorted(NAMES), [], []))
        self.assertEqual(book.why(NAMES[-1]), ("lacking", NAMES[0]))
        book.redo()
        self.look_whole(book, (">", 0, 0))

    def test_changes_below(self):
        book = long_book(False)
        book.put(NAMES[0], Program(("/y", "@", "/z", "z", "y")))
        self.assertEqual((book.changed(), book.worked()), ([], [NAMES[0]]))
        book.put(NAMES[0], read("[x] [y] (x y)"))
        self.assertEqual((book.changed(), book.worked()), (sorted(NAMES), sorted(NAMES)))
        self.look_whole(book, (">", ">", 0, 1, ">", 0, 1))
        self.assertEqual(book.differing(MANY, MANY + 2), sorted(NAMES))
        self.assertEqual(book.differing(MANY + 1, MANY), [])

    def test_a_ring_of_all(self):
        book = long_book(False)
        book.put(NAMES[0], Program((NAMES[-1],)))
        self.assertEqual((book.changed(), book.worked(), book.order()), (sorted(NAMES), [], []))
        for name in (NAMES[0], NAMES[700]):
            word, row = book.why(name)
            self.assertEqual((word, len(row), len(set(row))), ("ring", MANY, MANY))
            self.assertTrue(all(book.uses(row[at - 1]) == [one] for at, one in enumerate(row)))
        book.put("above", Program((NAMES[500],)))
        self.assertEqual(sorted(book.why("above")[1]), sorted(NAMES))
        book.undo()
        book.undo()
        self.look_whole(book, (">", 0, 0))
        book.drop(NAMES[500])
        self.assertEqual((book.changed(), book.order()), (sorted(NAMES[500:]), NAMES[:500]))
        self.assertEqual(book.why(NAMES[-1]), ("lacking", NAMES[500]))

    def test_back_and_forth(self):
        book = long_book(True)
        journal = book.journal()
        other = book.copy()
        for _ in range(MANY):
            other.undo()
        self.assertEqual((other.names(), other.version()), ([], 0))
        for _ in range(MANY):
            other.redo()
        self.look_whole(other, (">", 0, 0))
        self.assertEqual((book.journal(), len(book.differing(0, MANY)), book.differing(0, MANY - 1)), (journal, MANY, []))
        self.assertEqual(book.at(MANY - 1).order(), [])
        self.look_whole(book.at(MANY), (">", 0, 0))

    def test_deals(self):
        book, other = Book(), long_book(False)
        deal = book.deal()
        for at in reversed(range(MANY)):
            deal.put(NAMES[at], ROW[at])
        self.look_whole(deal, (">", 0, 0))
        self.assertIs(deal.commit(), True)
        self.look_whole(book, (">", 0, 0))
        self.assertEqual((book.version(), book.changed()), (1, sorted(NAMES)))
        late = other.deal()
        late.kind(NAMES[-1])
        late.drop(NAMES[0])
        other.put(NAMES[0], read("[x] [y] (y x)"))
        self.assertIs(late.commit(), False)

    def test_journals(self):
        book = long_book(True)
        journal = book.journal()
        other, many = recovered(journal)
        self.assertEqual((many, other.journal() == journal), (len(journal), True))
        self.look_whole(other, (">", 0, 0))
        other, many = recovered(snapshot(book))
        self.assertEqual((many, other.version()), (len(snapshot(book)), 1))
        self.look_whole(other, (">", 0, 0))
        self.assertEqual(recovered(journal[:-1])[0].order(), [])
        whole, clashes = merged(book, long_book(False))
        self.assertEqual(clashes, [])
        self.look_whole(whole, (">", 0, 0))
        half, rest = Book(), Book()
        for at in range(MANY):
            (half if at % 2 else rest).put(NAMES[at], ROW[at])
        self.look_whole(merged(half, rest)[0], (">", 0, 0))


class GreatEntriesTest(LowTest):

    def test_deep_programs(self):
        names = fresh(333)
        rows = [shape(names, set(names)) for shape in SHAPES] + [applied_row(selves(333)), selves_inside(333)]
        for words in rows + [takes_ahead(333, True), takes_ahead(333, False)]:
            book = Book()
            book.put("user", read("[x] (used x)"))
            book.put("used", Program(words))
            self.assertEqual(book.order(), ["used", "user"])
            # What takes and gives on at once is of the same kind.
            self.assertEqual(book.kind("user"), book.kind("used"))
            self.assertTrue(same(book.rest("used"), program_of(book.kind("used"))))
            other, many = recovered(book.journal())
            self.assertEqual((many, other.kind("user")), (len(book.journal()), book.kind("user")))
            self.assertTrue(text(Program(words)) in book.journal())

    def test_many_uses(self):
        names = fresh(300)
        for shape in SHAPES:
            book = Book()
            book.put("whole", Program(shape(names, ())))
            self.assertEqual(book.uses("whole"), sorted(names))
            self.assertEqual(book.why("whole"), ("lacking", min(names)))
            for name in names:
                book.put(name, Program(SELF))
            self.assertEqual((book.kind("whole").words, book.order()[-1]), ((">", 0, 0), "whole"))
            for name in names[::60]:
                book.drop(name)
                self.assertEqual(book.why("whole"), ("lacking", min(set(names) - set(book.names()))))

    def test_greater_ones(self):
        kind = Kind(lefts([letter for letter in range(1000) for _ in range(2)]))
        great = program_of(kind)
        book = Book()
        with self.assertRaises(NoProgram):
            book.put("great", great)
        with self.assertRaises(NoProgram):
            book.deal().put("great", applied(great, great))
        # What was read off a kind may have more words than a program may.
        for name in ("p", "q", "r"):
            book.put(name, Program(takes_ahead(333, False)))
        book.put("all", read("[f] (((f p) q) r)"))
        self.assertEqual(len(book.rest("all").words), 2999)
        self.assertIsNone(first_unlike(text(book.rest("all")), text(program_of(book.kind("all")))))
        with self.assertRaises(TooMany):
            book.put("more", read("[f] (f all)"))


if __name__ == "__main__":
    unittest.main()
