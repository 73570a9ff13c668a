"""Books that are recovered from their journals, told in one record, and made one of two."""

from oncekinds.basics import is_name, number_told
from oncekinds.books import Book, begun, shelf_record
from oncekinds.errors import BadProgram, BadText, NoText, NothingDone, TooMany, Unknown
from oncekinds.naming import same
from oncekinds.records import unsealed
from oncekinds.shelves import Shelf
from oncekinds.texts import read


def recovered(journal):
    """Return the pair of the Book to which the whole and right records lead, and how many signs these take."""
    if not isinstance(journal, str):
        raise NoText()
    book = Book()
    # What stands behind the last line feed is no whole line.
    rows = journal.split("\n")[:-1]
    lines = [unsealed(row) for row in rows]
    at = 0
    behind = led_on(book, lines, at)
    while behind > at:
        at = behind
        behind = led_on(book, lines, at)
    return (book, sum([len(row) + 1 for row in rows[:at]]))


def led_on(book, lines, at):
    """Return the index behind the record that begins at a line, having done it, or this index if it isn't right."""
    line = lines[at] if at < len(lines) else None
    if line is None:
        return at
    behind = at + 1
    if line in ("undo", "redo"):
        right = was_gone(book, line)
    elif line.startswith("deal "):
        many = number_told(line[len("deal "):])
        # A number that is told wrong, or that is 0, is no number of a deal's lines.
        behind = at + 1 + (many or 0)
        right = was_dealt(book, lines[at + 1:behind], many)
    else:
        right = was_done(book, change_told(line))
    return behind if right else at


def was_gone(book, line):
    """Tell whether an undo or a redo could be done, having done it."""
    try:
        if line == "undo":
            book.undo()
        else:
            book.redo()
    except NothingDone:
        return False
    return True


def change_told(line):
    """Return the pair of a name and the program that a line puts, or None for a drop; None for another line."""
    if line is None:
        return None
    word, _, behind = line.partition(" ")
    name, blank, signs = behind.partition(" ")
    if not is_name(name):
        return None
    if word == "drop" and blank == "":
        return (name, None)
    if word != "put":
        return None
    try:
        return (name, read(signs))
    except (BadText, BadProgram):
        return None


def was_done(holder, change):
    """Tell whether a change could be done to a Book or a Deal, having done it."""
    if change is None:
        return False
    try:
        if change[1] is None:
            holder.drop(change[0])
        else:
            holder.put(change[0], change[1])
    except (Unknown, TooMany):
        return False
    return True


def was_dealt(book, lines, many):
    """Tell whether lines, so many of them and not none, could be done as one deal, having done it."""
    if not lines or len(lines) != many:
        return False
    deal = book.deal()
    for line in lines:
        if not was_done(deal, change_told(line)):
            return False
    return deal.commit()


def snapshot(book):
    """Return the record of a deal with a put for each entry of a Book, ascending by names; "" without entries."""
    return shelf_record(book.shelf)


def merged(one, other):
    """Return the pair of a Book with all entries of two, and the ascending list of the names that clash.

    Of two entries under one name it has the first one's program.
    """
    shelf = Shelf()
    # An entry whose uses are all there is as whole and of as many words as at the end, so nothing is refused too early.
    for book in (one, other):
        for name in book.names():
            if name not in shelf.entries:
                shelf.put(name, book.program(name))
    shared = [name for name in one.names() if name in other.shelf.entries]
    return (begun(shelf), [name for name in shared if clash_under(one, other, name)])


def clash_under(one, other, name):
    """Tell whether two books' entries under a name are neither the same programs nor whole and of equal kinds."""
    if same(one.program(name), other.program(name)):
        return False
    return one.kind(name) is None or one.kind(name) != other.kind(name)
