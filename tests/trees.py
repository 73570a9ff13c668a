"""Another way to look at small programs: as trees, worked out by plain recursion."""

from itertools import product


def tree_of(words, at=0):
    """Return the tree that begins at an index, and the index behind it; IndexError if words lack."""
    word = words[at]
    if word == "@":
        giver, middle = tree_of(words, at + 1)
        given, end = tree_of(words, middle)
        return ("@", giver, given), end
    if word.startswith("/"):
        body, end = tree_of(words, at + 1)
        return ("/", word[1:], body), end
    return ("name", word), at + 1


def names_in(tree):
    """Return the names that stand in a tree."""
    if tree[0] == "name":
        return [tree[1]]
    if tree[0] == "/":
        return names_in(tree[2])
    return names_in(tree[1]) + names_in(tree[2])


def fault_of(words):
    """Return what BadProgram tells of words that are all words, or None."""
    try:
        _, end = tree_of(words)
    except IndexError:
        return len(words)
    if end < len(words):
        return end
    for at, word in enumerate(words):
        if word != "@" and word in words[:at]:
            return at
    for at, word in enumerate(words):
        if word.startswith("/") and word[1:] not in names_in(tree_of(words, at + 1)[0]):
            return at
    return None


def nameless(tree, around=()):
    """Return a tree without taken names: each is told by how many takes lie between it and its own."""
    if tree[0] == "name":
        return ("taken", around.index(tree[1])) if tree[1] in around else tree
    if tree[0] == "/":
        return ("/", nameless(tree[2], (tree[1],) + around))
    return ("@", nameless(tree[1], around), nameless(tree[2], around))


def meaning(program):
    """Return the nameless tree of a Program."""
    return nameless(tree_of(program.words)[0])


def replaced(tree, name, other):
    """Return a nameless tree with another one in the place of an open name."""
    if tree == ("name", name):
        return other
    if tree[0] == "/":
        return ("/", replaced(tree[1], name, other))
    if tree[0] == "@":
        return ("@", replaced(tree[1], name, other), replaced(tree[2], name, other))
    return tree


def right_words(signs, most):
    """Return all programs in words, of at most so many words out of these signs."""
    rows = [row for length in range(1, most + 1) for row in product(signs, repeat=length)]
    return [row for row in rows if fault_of(row) is None]


def open_in(words):
    """Return the list of the names that stand and are not taken."""
    return [name for name in names_in(tree_of(words)[0]) if "/" + name not in words]
