"""Another way to look at small kinds: as letters and pairs, worked out by plain recursion."""

from itertools import permutations, product


def kind_tree(words, at=0):
    """Return the tree that begins at an index, and the index behind it."""
    if words[at] != ">":
        return words[at], at + 1
    left, middle = kind_tree(words, at + 1)
    right, end = kind_tree(words, middle)
    return (left, right), end


def tree(words):
    """Return the tree of a whole kind: a letter, or the pair of its left and its right."""
    return kind_tree(words)[0]


def kind_words(kind):
    """Return the words of a tree."""
    if not isinstance(kind, tuple):
        return (kind,)
    return (">",) + kind_words(kind[0]) + kind_words(kind[1])


def numbered_words(words):
    """Return the words with the letters being 0, 1, .. as they come."""
    order = list(dict.fromkeys(word for word in words if word != ">"))
    return tuple(word if word == ">" else order.index(word) for word in words)


def apart(kind, owner):
    """Return a tree whose letters are no letters of other owners."""
    if isinstance(kind, tuple):
        return (apart(kind[0], owner), apart(kind[1], owner))
    return f"{owner} {kind}"


def put(kind, table):
    """Return a tree with all that stands in a table for its letters, again and again."""
    if isinstance(kind, tuple):
        return (put(kind[0], table), put(kind[1], table))
    return put(table[kind], table) if kind in table else kind


def letters_of(kind):
    """Return the list of the letters of a tree, as they stand."""
    if isinstance(kind, tuple):
        return letters_of(kind[0]) + letters_of(kind[1])
    return [kind]


def united(kind, other, table):
    """Return a table that makes both trees the same one, or None."""
    kind, other = put(kind, table), put(other, table)
    if kind == other:
        return table
    if isinstance(kind, tuple) and isinstance(other, tuple):
        half = united(kind[0], other[0], table)
        return None if half is None else united(kind[1], other[1], half)
    if isinstance(kind, tuple):
        kind, other = other, kind
    return None if kind in letters_of(other) else table | {kind: other}


def common_words(words, others):
    """Return the words of the widest kind that comes of both, or None."""
    one = apart(tree(words), "one")
    table = united(one, apart(tree(others), "other"), {})
    return None if table is None else numbered_words(kind_words(put(one, table)))


def given_words(words, others):
    """Return the words of the widest kind of what has the one if it is given what has the other, or None."""
    one = apart(tree(words), "one")
    if not isinstance(one, tuple):
        return None
    table = united(one[0], apart(tree(others), "other"), {})
    return None if table is None else numbered_words(kind_words(put(one[1], table)))


def shapes(places):
    """Return the words of all kinds with so many places of letters, all letters being 0."""
    if places == 1:
        return [(0,)]
    return [(">",) + left + right for less in range(1, places)
            for left in shapes(less) for right in shapes(places - less)]


def letter_rows(places):
    """Return all rows of so many letters, told apart but for which letters they are."""
    rows = [()]
    for _ in range(places):
        rows = [row + (letter,) for row in rows for letter in range(len(set(row)) + 1)]
    return rows


def kinds_with(places):
    """Return the words of all kinds with so many places of letters, numbered."""
    found = []
    for shape, row in product(shapes(places), letter_rows(places)):
        letters = iter(row)
        found.append(tuple(word if word == ">" else next(letters) for word in shape))
    return found


def fillings_by_trees(words, others):
    """Return the dict from letters to words that makes the one the others, or None."""
    found = {}
    waiting = [(tree(words), tree(others))]
    while waiting:
        one, other = waiting.pop()
        if isinstance(one, tuple):
            if not isinstance(other, tuple):
                return None
            waiting += list(zip(one, other))
        elif found.setdefault(one, kind_words(other)) != kind_words(other):
            return None
    return found


def kinding_words(words):
    """Return the list of the words of the kinds at all places in the widest kinding, numbered together."""
    table = {}
    for whole, left, right in joints_by_counting(words):
        table = united(f"at {whole}", (f"at {left}", f"at {right}"), table)
    found = [kind_words(put(f"at {place}", table)) for place in range(len(words))]
    order = list(dict.fromkeys(word for row in found for word in row if word != ">"))
    return [tuple(word if word == ">" else order.index(word) for word in row) for row in found]


def joints_by_counting(words):
    """Return the triples of places of which the first one's kind is from the second's to the third's."""
    found = []
    for at, word in enumerate(words):
        if word == "@":
            lacking, given = 1, at + 1
            while lacking:
                lacking += {"@": 1, "/": 0}.get(words[given][0], -1)
                given += 1
            found.append((at + 1, given, at))
        elif word[0] == "/":
            found.append((at, words.index(word[1:]), at + 1))
    return found


def even_kinds(places):
    """Return the words of all even kinds with so many places of letters, numbered."""
    found = []
    for shape in shapes(places):
        sides = sides_of(tree(shape))
        if 2 * sum(sides) == places:
            found += {numbered_words(laid_on(shape, sides, row)) for row in permutations(range(places // 2))}
    return found


def laid_on(shape, sides, row):
    """Return a shape with 0, 1, .. on the left side, and the letters of a row on the right side."""
    left, right = iter(range(len(row))), iter(row)
    letters = iter([next(right) if side else next(left) for side in sides])
    return tuple(word if word == ">" else next(letters) for word in shape)


def sides_of(kind, side=True):
    """Return the sides of a tree's letters, as they stand."""
    if not isinstance(kind, tuple):
        return [side]
    return sides_of(kind[0], not side) + sides_of(kind[1], side)
