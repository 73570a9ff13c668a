"""Another way to look at small programs: as trees, worked out by plain recursion."""

from itertools import combinations, product

from tests.samples import letterings


def tree_of(words, at=0):
    """Return the tree that begins at an index, and the index behind it; IndexError if words lack."""
    word = words[at]
    if word == "@":
        giver, middle = tree_of(words, at + 1)
        given, end = tree_of(words, middle)
        return ("@", giver, given), end
    if word.startswith("/"):
        body, end = tree_of(words, at + 1)
        return ("/", word[1:], body), end
    return ("name", word), at + 1


def names_in(tree):
    """Return the names that stand in a tree."""
    if tree[0] == "name":
        return [tree[1]]
    if tree[0] == "/":
        return names_in(tree[2])
    return names_in(tree[1]) + names_in(tree[2])


def fault_of(words):
    """Return what BadProgram tells of words that are all words, or None."""
    try:
        _, end = tree_of(words)
    except IndexError:
        return len(words)
    if end < len(words):
        return end
    for at, word in enumerate(words):
        if word != "@" and word in words[:at]:
            return at
    for at, word in enumerate(words):
        if word.startswith("/") and word[1:] not in names_in(tree_of(words, at + 1)[0]):
            return at
    return None


def nameless(tree, around=()):
    """Return a tree without taken names: each is told by how many takes lie between it and its own."""
    if tree[0] == "name":
        return ("taken", around.index(tree[1])) if tree[1] in around else tree
    if tree[0] == "/":
        return ("/", nameless(tree[2], (tree[1],) + around))
    return ("@", nameless(tree[1], around), nameless(tree[2], around))


def meaning(program):
    """Return the nameless tree of a Program."""
    return nameless(tree_of(program.words)[0])


def replaced(tree, name, other):
    """Return a tree, a nameless one too, with another one in the place of a name."""
    if tree == ("name", name):
        return other
    if tree[0] == "/":
        return tree[:-1] + (replaced(tree[-1], name, other),)
    if tree[0] == "@":
        return ("@", replaced(tree[1], name, other), replaced(tree[2], name, other))
    return tree


def right_words(signs, most):
    """Return all programs in words, of at most so many words out of these signs."""
    rows = [row for length in range(1, most + 1) for row in product(signs, repeat=length)]
    return [row for row in rows if fault_of(row) is None]


def open_in(words):
    """Return the list of the names that stand and are not taken."""
    return [name for name in names_in(tree_of(words)[0]) if "/" + name not in words]


def words_of(tree):
    """Return the words of a tree."""
    if tree[0] == "name":
        return (tree[1],)
    if tree[0] == "/":
        return ("/" + tree[1],) + words_of(tree[2])
    return ("@",) + words_of(tree[1]) + words_of(tree[2])


def reduced(tree):
    """Return the tree behind all steps, done from the inside to the outside."""
    if tree[0] == "name":
        return tree
    if tree[0] == "/":
        return ("/", tree[1], reduced(tree[2]))
    giver, given = reduced(tree[1]), reduced(tree[2])
    if giver[0] == "/":
        return reduced(replaced(giver[2], giver[1], given))
    return ("@", giver, given)


def all_steps(words):
    """Return the list of the pairs of a place of a step and the words behind it, worked out by trees."""
    found = []
    for at, word in enumerate(words):
        if word == "@" and words[at + 1][0] == "/":
            (_, (_, name, body), given), end = tree_of(words, at)
            found.append((at, words[:at] + words_of(replaced(body, name, given)) + words[end:]))
    return found


def trees_with(givens, names, path="t"):
    """Go over all trees with so many givens and just these open names, each taken name being a string of its own."""
    if givens == 0 and len(names) == 1:
        yield ("name", names[0])
    if givens + 1 > len(names):
        for body in trees_with(givens, names + (path,), path + "-b"):
            yield ("/", path, body)
    for less in range(givens):
        for many in range(len(names) + 1):
            for own in combinations(names, many):
                others = tuple(name for name in names if name not in own)
                for giver in trees_with(less, own, path + "-f"):
                    for given in trees_with(givens - 1 - less, others, path + "-a"):
                        yield ("@", giver, given)


def programs_with(givens, names=()):
    """Return the words of all programs with so many givens and just these open names, told apart but for taken ones."""
    found = []
    for tree in trees_with(givens, names):
        words = words_of(tree)
        taken = [word[1:] for word in words if word[0] == "/"]
        row = [name for name in letterings(len(taken) + len(names)) if name not in names]
        table = {"/" + old: "/" + new for old, new in zip(taken, row)} | dict(zip(taken, row))
        found.append(tuple(table.get(word, word) for word in words))
    return found
