"""Books of programs that use one another, with all that was done to them."""

from oncekinds.basics import is_number
from oncekinds.deals import Deal
from oncekinds.deeds import AFTER, BEFORE, joined
from oncekinds.errors import NoNumber, NothingDone
from oncekinds.records import change_record, deal_record, sealed
from oncekinds.shelves import Shelf


class Book:
    """Entries with their kinds, the deeds that led to them, and their journal."""

    def __init__(self):
        self.shelf = Shelf()
        self.done = []
        self.undone = []
        self.records = []
        self.last_changed = []
        self.last_worked = []

    def put(self, name, program):
        """Keep a program under a name."""
        self.add_deed(self.shelf.put(name, program), change_record(name, program))

    def drop(self, name):
        """Keep nothing under a name."""
        self.add_deed(self.shelf.drop(name), change_record(name, None))

    def take_over(self, deed, changes):
        """Do what a deal did, as one deed; the changes are pairs of a name and a program or None."""
        self.shelf.lead(deed, AFTER)
        self.add_deed(deed, deal_record(changes))

    def add_deed(self, deed, record):
        """Note a deed that was done just now."""
        self.done.append(deed)
        self.undone = []
        self.settle(deed, record)

    def settle(self, deed, record):
        """Note what a deed, undo or redo, done just now, came to."""
        self.last_changed = sorted(deed.kind_pairs)
        self.last_worked = self.shelf.worked_by(deed)
        self.records.append(record)

    def undo(self):
        """Take back the last deed that is not taken back."""
        if not self.done:
            raise NothingDone()
        deed = self.done.pop()
        self.undone.append(deed)
        self.shelf.lead(deed, BEFORE)
        self.settle(deed, sealed("undo"))

    def redo(self):
        """Do the deed that was taken back last again."""
        if not self.undone:
            raise NothingDone()
        deed = self.undone.pop()
        self.done.append(deed)
        self.shelf.lead(deed, AFTER)
        self.settle(deed, sealed("redo"))

    def names(self):
        """Return the ascending list of the names."""
        return self.shelf.names()

    def program(self, name):
        """Return the Program under a name."""
        return self.shelf.program(name)

    def kind(self, name):
        """Return the Kind of an entry, None for one that is not whole."""
        return self.shelf.kind(name)

    def rest(self, name):
        """Return the rest of an entry's meaning, None for one that is not whole."""
        return self.shelf.rest(name)

    def why(self, name):
        """Return the pair that tells why an entry is not whole, None for a whole one."""
        return self.shelf.why(name)

    def uses(self, name):
        """Return the ascending list of the uses of an entry."""
        return self.shelf.uses(name)

    def users(self, name):
        """Return the ascending list of the entries that use a name."""
        return self.shelf.users(name)

    def order(self):
        """Return the list of all whole entries, each behind those that it uses."""
        return self.shelf.order()

    def changed(self):
        """Return the ascending list of the names whose kinds the last deed, undo or redo changed."""
        return list(self.last_changed)

    def worked(self):
        """Return the ascending list of the whole entries that it touched, or of whose uses it changed a kind."""
        return list(self.last_worked)

    def version(self):
        """Return how many deeds are done and not taken back."""
        return len(self.done)

    def at(self, version):
        """Return a Book with the entries behind so many deeds, itself without deeds."""
        self.check_version(version)
        shelf = self.shelf.copied()
        shelf.lead(joined(self.done[version:]), BEFORE)
        return begun(shelf)

    def check_version(self, thing):
        """Raise NoNumber for what is no number up to that of the deeds."""
        if not is_number(thing) or thing > len(self.done):
            raise NoNumber()

    def differing(self, one, other):
        """Return the ascending list of the names whose kinds are unlike behind so many deeds and so many."""
        self.check_version(one)
        self.check_version(other)
        return sorted(joined(self.done[min(one, other):max(one, other)]).kind_pairs)

    def copy(self):
        """Return a Book that goes on apart, with all deeds."""
        other = Book()
        other.shelf = self.shelf.copied()
        other.done = list(self.done)
        other.undone = list(self.undone)
        other.records = list(self.records)
        other.last_changed = list(self.last_changed)
        other.last_worked = list(self.last_worked)
        return other

    def deal(self):
        """Return a Deal that begins with the entries as they are."""
        return Deal(self)

    def journal(self):
        """Return all records, one behind another."""
        return "".join(self.records)


def begun(shelf):
    """Return a Book that begins with the entries of a shelf, without deeds."""
    book = Book()
    book.shelf = shelf
    book.records = [shelf_record(shelf)]
    return book


def shelf_record(shelf):
    """Return the record of a deal with a put for each entry, ascending by names; "" without entries."""
    names = shelf.names()
    return deal_record([(name, shelf.program(name)) for name in names]) if names else ""
