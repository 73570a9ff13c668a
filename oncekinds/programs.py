"""Programs in words, and what stands at their places."""

from oncekinds.basics import ends_by, is_name, is_number, misfit_index
from oncekinds.errors import BadProgram, NoPlace, NotClosed

GIVEN = "@"
TAKE = "/"
MOST_WORDS = 1000


class Program:
    """A program in words, in which each name that is taken is used once."""

    def __init__(self, words):
        index = fault_index(words)
        if index is not None:
            raise BadProgram(index)
        self.words = words

    def __eq__(self, other):
        return isinstance(other, Program) and self.words == other.words


def built(words):
    """Return the Program of a tuple of words that is known to be a program."""
    # What the package works out may have more words than Program lets through.
    program = Program(("a",))
    program.words = words
    return program


def fault_index(words):
    """Return the index of the first fault that is due, or None for a program."""
    if not isinstance(words, tuple) or not 1 <= len(words) <= MOST_WORDS:
        return -1
    index = stranger_index(words)
    if index is None:
        index = misfit_index([parts_in(word) for word in words])
    if index is None:
        index = repeated_index(words)
    if index is None:
        index = unused_index(words)
    return index


def is_word(thing):
    """Tell whether a thing is "@", a take of a name, or a name."""
    if not isinstance(thing, str):
        return False
    return thing == GIVEN or is_name(thing) or (thing.startswith(TAKE) and is_name(thing[1:]))


def stranger_index(things):
    """Return the index of the first thing that is no word, or None."""
    for at, thing in enumerate(things):
        if not is_word(thing):
            return at
    return None


def parts_in(word):
    """Return how many parts belong to a word: those behind "@", the body of a take, none to a name."""
    if word == GIVEN:
        return 2
    return 1 if word.startswith(TAKE) else 0


def repeated_index(words):
    """Return the index of the first name or take that stands a second time, or None."""
    seen = set()
    for at, word in enumerate(words):
        if word in seen:
            return at
        if word != GIVEN:
            seen.add(word)
    return None


def unused_index(words):
    """Return the index of the first take whose name doesn't stand in its body, or None."""
    places = {word: at for at, word in enumerate(words)}
    behind = ends_of(words)
    for at, word in enumerate(words):
        if word.startswith(TAKE) and not at < places.get(word[1:], -1) < behind[at]:
            return at
    return None


def ends_of(words):
    """Return the tuple with the index behind the part at each place."""
    return ends_by([parts_in(word) for word in words])


def taken_names(program):
    """Return the list of the names that are taken, in the order of the takes."""
    return [word[1:] for word in program.words if word.startswith(TAKE)]


def standing_names(program):
    """Return the list of all names, taken and open, as they stand."""
    return [word for word in program.words if stands_as_name(word)]


def stands_as_name(word):
    """Tell whether a word of a program is a name."""
    return word != GIVEN and not word.startswith(TAKE)


def check_place(program, place):
    """Raise NoPlace for what is not the index of a word."""
    if not is_number(place) or place >= len(program.words):
        raise NoPlace()


def open_names(program):
    """Return the tuple of the open names as they stand."""
    taken = set(taken_names(program))
    return tuple([name for name in standing_names(program) if name not in taken])


def check_closed(program):
    """Raise NotClosed for a program with open names."""
    if open_names(program):
        raise NotClosed()


def givens(program):
    """Return how many givens there are."""
    return program.words.count(GIVEN)


def takes(program):
    """Return how many takes there are."""
    return len(taken_names(program))


def ends(program):
    """Return the tuple with the index behind the part at each place."""
    return ends_of(program.words)


def part(program, place):
    """Return the Program that begins at a place."""
    check_place(program, place)
    return built(program.words[place:ends_of(program.words)[place]])


def taken_at(program, place):
    """Return the place of the take of the name at a place, or None for other words and open names."""
    check_place(program, place)
    # Behind "@" and takes this makes what is no word, so it is not there either.
    take = TAKE + program.words[place]
    return program.words.index(take) if take in program.words else None
