"""Kinds that are put in the places of letters, and what two kinds have in common."""

from oncekinds.basics import is_number
from oncekinds.errors import NoFillings, TooMany
from oncekinds.kinds import INTO, Kind, kind_ends, kind_of
from oncekinds.nodes import Nodes

MOST_FILLED = 100000


def filled(kind, fillings):
    """Return the Kind with all fillings of a dict in the places of its letters."""
    if not is_fillings(fillings):
        raise NoFillings()
    rows = {letter: worth.words for letter, worth in fillings.items()}
    if sum([len(rows.get(word, (word,))) for word in kind.words]) > MOST_FILLED:
        raise TooMany(MOST_FILLED)
    told = []
    for word in kind.words:
        told.extend(rows.get(word, (word,)))
    return kind_of(tuple(told))


def is_fillings(thing):
    """Tell whether a thing is a dict from letters to Kinds."""
    if not isinstance(thing, dict):
        return False
    return all([is_number(key) and isinstance(worth, Kind) for key, worth in thing.items()])


def filling(kind, other):
    """Return the dict from all letters of the first kind to the Kinds that make it the other one, or None."""
    behind = kind_ends(other.words)
    rows = {}
    at = 0
    for word in kind.words:
        if word == INTO:
            if other.words[at] != INTO:
                return None
            at += 1
        else:
            row = other.words[at:behind[at]]
            if rows.setdefault(word, row) != row:
                return None
            at = behind[at]
    return {letter: kind_of(row) for letter, row in rows.items()}


def common(kind, other):
    """Return the widest Kind that comes of both, letters of the one being none of the other's, or None."""
    return common_within(kind, other, MOST_FILLED)


def common_within(kind, other, most):
    """Return the widest Kind that comes of both, or None; TooMany for more words."""
    nodes = Nodes()
    node = nodes.take_in(kind)
    nodes.unite(node, nodes.take_in(other))
    return only_kind(nodes, node, most)


def only_kind(nodes, node, most):
    """Return the Kind of one node, or None; TooMany for more words."""
    told = nodes.kinds([node], most)
    return None if told is None else told[0]


def given_kind(kind, other):
    """Return the widest Kind of what has the one kind if it is given what has the other, or None."""
    if kind.words[0] != INTO:
        return None
    nodes = Nodes()
    node = nodes.take_in(kind)
    nodes.unite(nodes.lefts[node], nodes.take_in(other))
    return only_kind(nodes, nodes.rights[node], MOST_FILLED)
