"""Names told anew, and programs put together without a name being caught."""

from oncekinds.basics import is_name, lettered
from oncekinds.errors import NoName, NoNames, SharedNames
from oncekinds.programs import GIVEN, TAKE, built, open_names, standing_names


def renamed(program, names):
    """Return the program with all its names told anew by a dict."""
    if not is_renaming(program, names):
        raise NoNames()
    return built(tuple([respelled(word, names) for word in program.words]))


def is_renaming(program, thing):
    """Tell whether a thing is a dict from just all names of a program to unlike names."""
    if not isinstance(thing, dict):
        return False
    standing = standing_names(program)
    if len(thing) != len(standing) or not all([name in thing for name in standing]):
        return False
    told = list(thing.values())
    return all([is_name(name) for name in told]) and len(set(told)) == len(told)


def respelled(word, table):
    """Return a word with its name told anew, if it has one that is in the table."""
    if word.startswith(TAKE):
        return TAKE + table.get(word[1:], word[1:])
    return table.get(word, word)


def standard(program):
    """Return the program with its taken names being the first ones that are not open."""
    return told_anew([(0, program.words)], open_names(program))


def told_anew(pieces, held):
    """Return the standard Program of the words of all pieces, one behind another; held are its open names.

    A piece is a pair: the number of the program that it comes from, and words.
    The number keeps apart what two programs take under one name.
    """
    taken = [(owner, word[1:]) for owner, words in pieces for word in words if word.startswith(TAKE)]
    fresh = list(zip(taken, fresh_names(len(taken), held)))
    told = []
    for owner, words in pieces:
        table = {name: new for (whose, name), new in fresh if whose == owner}
        told.extend([respelled(word, table) for word in words])
    return built(tuple(told))


def fresh_names(many, held):
    """Return the list of the first so many of a, b, .., z, aa, ab, .. that are not held."""
    barred = set(held)
    # The held names take away at most as many as they are.
    row = [lettered(number) for number in range(many + len(held))]
    return [name for name in row if name not in barred][:many]


def same(program, other):
    """Tell whether two programs are the same but for taken names."""
    return standard(program) == standard(other)


def have_common(names, others):
    """Tell whether some name stands in both."""
    return len(set(names) & set(others)) > 0


def applied(program, other):
    """Return the standard Program in which the one program is given the other."""
    held = open_names(program)
    more = open_names(other)
    if have_common(held, more):
        raise SharedNames()
    return told_anew([(0, (GIVEN,) + program.words), (1, other.words)], held + more)


def put_in(program, name, other):
    """Return the standard Program with the other one in the place of an open name."""
    own = open_names(program)
    if name not in own:
        raise NoName()
    held = tuple([kept for kept in own if kept != name])
    more = open_names(other)
    if have_common(held, more):
        raise SharedNames()
    place = program.words.index(name)
    pieces = [(0, program.words[:place]), (1, other.words), (0, program.words[place + 1:])]
    return told_anew(pieces, held + more)
