"""Another way to read kinds: word for word as the document tells it, by plain recursion over trees."""

from tests.kind_trees import sides_of, tree


class Stop(Exception):
    """The reading comes to a fault."""


class Name:
    """A name that is at hand: where its kind begins, and whether it was used."""

    def __init__(self, begin, row, last):
        self.begin = begin
        self.row = row
        self.last = last
        self.used = False


def row_of(words, at):
    """Return the pairs (index, words) of A1, .., An of the kind A1 > (.. (An > p)) at an index, and the index of p."""
    row = []
    while words[at] == ">":
        end = end_by_counting(words, at + 1)
        row.append(at + 1)
        at = end
    return row, at


def end_by_counting(words, at):
    """Return the index behind the kind at an index."""
    lacking = 1
    while lacking:
        lacking += 1 if words[at] == ">" else -1
        at += 1
    return at


def read_part(words, at, hand):
    """Return the tree of the part that is read for what is wanted at an index; the taken names are Name objects."""
    row, last = row_of(words, at)
    taken = [Name(begin, *row_of(words, begin)) for begin in row]
    hand = hand + taken
    fitting = [name for name in hand
               if not name.used and name.last != last and words[name.last] == words[last]]
    if not fitting:
        raise Stop(("stops", last))
    fitting[0].used = True
    part = ("name", fitting[0])
    for begin in fitting[0].row:
        part = ("@", part, read_part(words, begin, hand))
    for name in taken:
        if not name.used:
            raise Stop(("left", name.begin))
    for name in reversed(taken):
        part = ("/", name, part)
    return part


def letter_fault(words):
    """Return the fault of the letters, or None."""
    letters = [word for word in words if word != ">"]
    for letter in sorted(set(letters)):
        if letters.count(letter) != 2:
            return ("letter", letter)
    stands = list(zip(letters, sides_of(tree(words))))
    for letter in sorted(set(letters)):
        if stands.count((letter, True)) != 1:
            return ("side", letter)
    return None


def read(words):
    """Return the tree that is read off a kind, and the fault of the reading; one of both is None."""
    fault = letter_fault(words)
    if fault is not None:
        return None, fault
    try:
        return read_part(words, 0, []), None
    except Stop as stop:
        return None, stop.args[0]


def words_read(words):
    """Return the words of the program that is read off a kind, its names being a, b, .. in the order of the takes."""
    part, _ = read(words)
    return None if part is None else spelled(part, {})


def spelled(part, names):
    """Return the words of a tree, with names for all takes that come."""
    if part[0] == "/":
        names[part[1]] = "abcdefghijklmnopqrstuvwxyz"[len(names)]
        return ("/" + names[part[1]],) + spelled(part[2], names)
    if part[0] == "@":
        return ("@",) + spelled(part[1], names) + spelled(part[2], names)
    return (names[part[1]],)
