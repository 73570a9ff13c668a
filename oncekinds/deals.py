"""Deals: edits apart from a book, that it gets all at once or not at all."""

from oncekinds.basics import is_name
from oncekinds.deeds import joined
from oncekinds.errors import Ended, NoName, TooMany, Unknown


class Deal:
    """Entries that began as those of a book, and a note of all that was done with them and asked of them."""

    def __init__(self, book):
        self.book = book
        self.shelf = book.shelf.copied()
        # Each note is a word, a name, and the program that was put or what was told.
        self.notes = []
        self.ended = False

    def put(self, name, program):
        """Keep a program under a name."""
        self.check_going()
        self.shelf.put(name, program)
        self.notes.append(("put", name, program))

    def drop(self, name):
        """Keep nothing under a name."""
        self.check_going()
        self.shelf.drop(name)
        self.notes.append(("drop", name, None))

    def names(self):
        """Return the ascending list of the names."""
        return self.noted("names", None)

    def program(self, name):
        """Return the Program under a name."""
        return self.noted("program", name)

    def kind(self, name):
        """Return the Kind of an entry, None for one that is not whole."""
        return self.noted("kind", name)

    def rest(self, name):
        """Return the rest of an entry's meaning, None for one that is not whole."""
        return self.noted("rest", name)

    def why(self, name):
        """Return the pair that tells why an entry is not whole, None for a whole one; this is not noted."""
        self.check_going()
        return self.shelf.why(name)

    def uses(self, name):
        """Return the ascending list of the uses of an entry."""
        return self.noted("uses", name)

    def users(self, name):
        """Return the ascending list of the entries that use a name."""
        return self.noted("users", name)

    def order(self):
        """Return the list of all whole entries, each behind those that it uses."""
        return self.noted("order", None)

    def noted(self, word, name):
        """Return what an ask is told, or raise its error, having noted it."""
        self.check_going()
        # What is no name is told nothing but an error, so that it need not be kept.
        self.notes.append((word, name if is_name(name) else None, answer(self.shelf, word, name)))
        return asked_of(self.shelf, word, name)

    def check_going(self):
        """Raise Ended behind a commit and behind leave."""
        if self.ended:
            raise Ended()

    def deeds(self):
        """Return how many puts and drops were done."""
        return len(self.changes())

    def changes(self):
        """Return the list of the pairs of a name and the program that was put, or None for a drop."""
        return [(name, thing) for word, name, thing in self.notes if word in ("put", "drop")]

    def asked(self):
        """Return how many asks are noted."""
        return len(self.notes) - self.deeds()

    def commit(self):
        """Give the book what was done, if all that was asked is told by it likewise; tell whether it is so."""
        self.check_going()
        self.ended = True
        deeds = replayed(self.notes, self.book.shelf.copied())
        if deeds is None:
            return False
        if deeds:
            self.book.take_over(joined(deeds), self.changes())
        return True

    def leave(self):
        """End the deal; the book gets nothing."""
        self.check_going()
        self.ended = True


def replayed(notes, shelf):
    """Return the list of the Deeds of all that is noted, done once more, or None if it comes to something else."""
    deeds = []
    try:
        for word, name, thing in notes:
            if word == "put":
                deeds.append(shelf.put(name, thing))
            elif word == "drop":
                deeds.append(shelf.drop(name))
            elif answer(shelf, word, name) != thing:
                return None
    except (TooMany, Unknown):
        return None
    return deeds


def answer(shelf, word, name):
    """Return what an ask is told, or the name of the class of the error that it raises."""
    try:
        return asked_of(shelf, word, name)
    except Unknown:
        return "Unknown"
    except NoName:
        return "NoName"


def asked_of(shelf, word, name):
    """Return what an ask, told by its word, is told."""
    if word == "names":
        return shelf.names()
    if word == "order":
        return shelf.order()
    if word == "program":
        return shelf.program(name)
    if word == "kind":
        return shelf.kind(name)
    if word == "rest":
        return shelf.rest(name)
    return shelf.uses(name) if word == "uses" else shelf.users(name)
