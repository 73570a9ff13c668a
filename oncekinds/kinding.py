"""The kinds at all places of a program."""

from oncekinds.errors import NoKind
from oncekinds.filling import filling
from oncekinds.kinds import INTO, Kind
from oncekinds.nodes import Nodes
from oncekinds.programs import GIVEN, TAKE, ends_of

MOST_KINDED = 100000


def joints(words):
    """Return the list of the triples of places of which the first one's kind is from the second's to the third's."""
    behind = ends_of(words)
    stands = {word: place for place, word in enumerate(words)}
    found = []
    for place, word in enumerate(words):
        if word == GIVEN:
            found.append((place + 1, behind[place + 1], place))
        elif word.startswith(TAKE):
            found.append((place, stands[word[1:]], place + 1))
    return found


def is_kinding(program, thing):
    """Tell whether a thing is a tuple of Kinds, one for each place of a program, that fit one another."""
    if not isinstance(thing, tuple) or len(thing) != len(program.words):
        return False
    if not all([isinstance(kind, Kind) for kind in thing]):
        return False
    rows = [kind.words for kind in thing]
    return all([rows[whole] == (INTO,) + rows[left] + rows[right] for whole, left, right in joints(program.words)])


def kinding(program):
    """Return the tuple of the Kinds at all places from which all other kindings come by filling."""
    nodes, places = kinded(program)
    return tuple(nodes.kinds(places, MOST_KINDED))


def kinded(program):
    """Return the Nodes of the widest kinding, and the list of the nodes at the places."""
    nodes = Nodes()
    places = [nodes.letter() for _ in program.words]
    for whole, left, right in joints(program.words):
        nodes.unite(places[whole], nodes.pair(places[left], places[right]))
    return nodes, places


def widest(program):
    """Return the Kind of the whole program in the widest kinding, numbered."""
    nodes, places = kinded(program)
    # It has fewer than two words for each of the program's, so it needs no bound.
    return nodes.kinds(places[:1], None)[0]


def widest_with(program, kinds, most):
    """Return the Kind of a program if what has the kinds of a dict is put in the places of its open names, numbered.

    TooMany is raised for more words.
    """
    nodes, places = kinded(program)
    for place, word in enumerate(program.words):
        if word in kinds:
            nodes.unite(places[place], nodes.take_in(kinds[word]))
    return nodes.kinds(places[:1], most)[0]


def fits(program, kind):
    """Tell whether some kinding of a program gives this Kind to the whole of it."""
    if not isinstance(kind, Kind):
        raise NoKind()
    return filling(widest(program), kind) is not None
