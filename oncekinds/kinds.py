"""Kinds in words, and the sides on which their letters stand."""

from oncekinds.basics import ends_by, is_number, misfit_index
from oncekinds.errors import BadKind

INTO = ">"
MOST_WORDS = 4000


class Kind:
    """A kind in words: a letter, or what turns its left into its right."""

    def __init__(self, words):
        index = fault_index(words)
        if index is not None:
            raise BadKind(index)
        self.words = words

    def __eq__(self, other):
        return isinstance(other, Kind) and self.words == other.words


def kind_of(words):
    """Return the Kind of a tuple of words that is known to be a kind."""
    # What the package works out may have more words than Kind lets through.
    kind = Kind((0,))
    kind.words = words
    return kind


def fault_index(words):
    """Return the index of the first fault that is due, or None for a kind."""
    if not isinstance(words, tuple) or not 1 <= len(words) <= MOST_WORDS:
        return -1
    for at, word in enumerate(words):
        if not is_kind_word(word):
            return at
    return misfit_index([sides_in(word) for word in words])


def is_kind_word(thing):
    """Tell whether a thing is ">" or a letter."""
    return is_number(thing) or (isinstance(thing, str) and thing == INTO)


def sides_in(word):
    """Return how many kinds belong to a word: a left and a right to ">", none to a letter."""
    return 2 if word == INTO else 0


def kind_ends(words):
    """Return the tuple with the index behind the kind at each place."""
    return ends_by([sides_in(word) for word in words])


def letters_in(words):
    """Return the list of the letters as they stand."""
    return [word for word in words if word != INTO]


def numbered(kind):
    """Return the Kind with its letters being 0, 1, .. in the order in which they come first."""
    told = {}
    for letter in letters_in(kind.words):
        told.setdefault(letter, len(told))
    return kind_of(tuple([told.get(word, word) for word in kind.words]))


def sides(kind):
    """Return the tuple of flags, one for each place of a letter: True for the right side."""
    found = []
    waiting = [True]
    for word in kind.words:
        side = waiting.pop()
        if word == INTO:
            # The left comes next, so it is laid on top.
            waiting.extend([side, not side])
        else:
            found.append(side)
    return tuple(found)


def is_even(kind):
    """Tell whether each letter stands just twice, once on either side."""
    if not isinstance(kind, Kind):
        return False
    letters = letters_in(kind.words)
    stands = list(zip(letters, sides(kind)))
    return len(set(stands)) == len(stands) == 2 * len(set(letters))
