"""Steps, which put in what is given, and the rest that they lead to."""

from oncekinds.basics import is_number
from oncekinds.errors import NoStep
from oncekinds.programs import GIVEN, TAKE, built, ends_of, givens, parts_in, stands_as_name


def steps(program):
    """Return the ascending tuple of all places of steps."""
    words = program.words
    return tuple([place for place in range(len(words)) if is_step(words, place)])


def is_step(words, thing):
    """Tell whether a thing is a place of a step in the words of a program."""
    if not is_number(thing) or thing >= len(words):
        return False
    # Behind "@" there is always another word.
    return words[thing] == GIVEN and words[thing + 1].startswith(TAKE)


def stepped(program, place):
    """Return the Program behind the step at a place."""
    if not is_step(program.words, place):
        raise NoStep()
    words, _ = step_done(program.words, place)
    return built(words)


def step_done(words, place):
    """Return the words behind the step at a place, and the mark by which step_undone takes it back."""
    middle = end_from(words, place + 1)
    end = end_from(words, middle)
    take = words[place + 1]
    stand = words.index(take[1:], place + 2)
    ahead = words[place + 2:stand]
    given = words[middle:end]
    after = words[stand + 1:middle]
    # The mark tells where, behind the step, what was given begins and ends, and where the body ends.
    begin = place + len(ahead)
    close = begin + len(given)
    mark = (place, take, begin, close, close + len(after))
    return words[:place] + ahead + given + after + words[end:], mark


def step_undone(words, mark):
    """Return the words ahead of the step of which step_done told the words and the mark."""
    place, take, begin, close, end = mark
    body = words[place:begin] + (take[1:],) + words[close:end]
    return words[:place] + (GIVEN, take) + body + words[begin:close] + words[end:]


def end_from(words, place):
    """Return the index behind the part at a place; only its own words are looked at."""
    lacking = 1
    while lacking > 0:
        lacking = lacking + parts_in(words[place]) - 1
        place = place + 1
    return place


def rest(program):
    """Return the program without steps to which all steps lead."""
    words = program.words
    behind = ends_of(words)
    put = {}
    told = []
    waiting = [0]
    # Each name is used once, so nothing is copied: one walk over the words comes by each of them once.
    while waiting:
        place = waiting.pop()
        given = []
        while words[place] in put or not stands_as_name(words[place]):
            word = words[place]
            place = put[word] if word in put else place + 1
            if word == GIVEN:
                given.append(behind[place])
            elif word.startswith(TAKE) and given:
                put[word[1:]] = given.pop()
            elif word.startswith(TAKE):
                told.append(word)
        told.extend([GIVEN] * len(given))
        told.append(words[place])
        waiting.extend(given)
    return built(tuple(told))


def many_steps(program):
    """Return how many steps lead to the rest."""
    # Each step leaves out one "@", and nothing is told twice.
    return givens(program) - givens(rest(program))


def is_way(program, other, thing):
    """Tell whether a thing is a tuple of places of steps that lead, one behind another, from a program to the other."""
    if not isinstance(thing, tuple):
        return False
    words = program.words
    for place in thing:
        if not is_step(words, place):
            return False
        words, _ = step_done(words, place)
    return words == other.words
