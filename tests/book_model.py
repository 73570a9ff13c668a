"""Another way to keep a book: all states in full, and all that is asked worked out from the meanings."""

from functools import lru_cache

from oncekinds.kinding import widest
from oncekinds.kinds import Kind
from oncekinds.programs import Program
from oncekinds.texts import text
from tests.kind_trees import kinding_words, numbered_words
from tests.samples import letterings
from tests.trees import open_in, programs_with, reduced, tree_of, words_of


@lru_cache(maxsize=None)
def kind_of_words(words):
    """Return the words of the widest kind of a closed program in words; of great ones the package is asked."""
    if len(words) > 60:
        return widest(Program(words)).words
    return numbered_words(kinding_words(words)[0])


@lru_cache(maxsize=None)
def rest_of_words(words):
    """Return the words of the standard rest of a closed program in words."""
    return standard_words(words_of(reduced(tree_of(words)[0])))


def standard_words(words):
    """Return the words of a closed program with its names told anew, in the order of the takes."""
    taken = [word[1:] for word in words if word[0] == "/"]
    table = dict(zip(taken, letterings(len(taken))))
    return tuple(word if word == "@" else "/" + table[word[1:]] if word[0] == "/" else table[word] for word in words)


class State:
    """Entries, as a dict from names to words."""

    def __init__(self, entries):
        self.entries = entries

    def uses(self, name):
        return sorted(open_in(self.entries[name]))

    def users(self, name):
        return sorted(other for other in self.entries if name in self.uses(other))

    def come_to(self, name):
        """Return the set of the names that are come to along uses."""
        found, waiting = set(), [name]
        while waiting:
            one = waiting.pop()
            for use in self.uses(one) if one in self.entries else []:
                if use not in found:
                    found.add(use)
                    waiting.append(use)
        return found

    def is_whole(self, name):
        if name not in self.entries:
            return False
        met = self.come_to(name)
        return all(one in self.entries and one not in self.come_to(one) for one in met | {name})

    def meaning(self, name, path="m"):
        """Return the words of the meaning of a whole entry, each taken name told by the way to it."""
        words = []
        for at, word in enumerate(self.entries[name]):
            if word == "@":
                words.append(word)
            elif word[0] == "/" or "/" + word in self.entries[name]:
                words.append(word[:word.find("/") + 1] + path + "." + word.lstrip("/"))
            else:
                words += self.meaning(word, f"{path}.{at}")
        return tuple(words)

    def kind(self, name):
        return kind_of_words(standard_words(self.meaning(name))) if self.is_whole(name) else None

    def rest(self, name):
        return rest_of_words(standard_words(self.meaning(name))) if self.is_whole(name) else None

    def kinds(self):
        return {name: self.kind(name) for name in self.entries}

    def lacking(self, name):
        return sorted(one for one in self.come_to(name) if one not in self.entries)

    def order(self):
        left = [name for name in sorted(self.entries) if self.is_whole(name)]
        found = []
        while left:
            one = next(name for name in left if set(self.uses(name)) <= set(found))
            found.append(one)
            left.remove(one)
        return found

    def edited(self, name, words):
        """Return the State with these words under a name, or without it."""
        entries = {one: row for one, row in self.entries.items() if one != name}
        if words is not None:
            entries[name] = words
        return State(entries)


def sealed(line):
    """Return a line of a journal with its check."""
    return f"{line} #{sum(at * ord(sign) for at, sign in enumerate(line, 1)) % 9973}\n"


def change_line(name, words):
    """Return the line of a put, or of a drop."""
    return f"drop {name}" if words is None else f"put {name} {text(Program(words))}"


class History:
    """The states behind all deeds."""

    def __init__(self):
        self.states = [State({})]
        self.touched = []
        self.point = 0
        self.changed = []
        self.worked = []
        self.journal = ""

    def now(self):
        return self.states[self.point]

    def put(self, name, words):
        self.deed([(name, words)], [change_line(name, words)])

    def drop(self, name):
        self.put(name, None)

    def commit(self, changes):
        lines = [change_line(name, words) for name, words in changes]
        self.deed(changes, [f"deal {len(lines)}"] + lines)

    def deed(self, changes, lines):
        state = self.now()
        for name, words in changes:
            state = state.edited(name, words)
        self.states[self.point + 1:] = [state]
        self.touched[self.point:] = [{name for name, _ in changes}]
        self.go(self.point + 1, self.touched[-1], lines)

    def undo(self):
        self.go(self.point - 1, self.touched[self.point - 1], ["undo"])

    def redo(self):
        self.go(self.point + 1, self.touched[self.point], ["redo"])

    def go(self, point, touched, lines):
        self.changed = self.differing(self.point, point)
        self.point = point
        state = self.now()
        self.worked = [name for name in sorted(state.entries) if state.is_whole(name)
                       and (name in touched or set(state.uses(name)) & set(self.changed))]
        self.journal += "".join(sealed(line) for line in lines)

    def differing(self, one, other):
        ahead, behind = self.states[one].kinds(), self.states[other].kinds()
        return sorted(name for name in ahead.keys() | behind.keys() if ahead.get(name) != behind.get(name))


def snapshot_of(state):
    """Return the snapshot of a state."""
    names = sorted(state.entries)
    lines = [f"deal {len(names)}"] + [change_line(name, state.entries[name]) for name in names]
    return "".join(sealed(line) for line in lines) if names else ""


def look_at(test, holder, state):
    """Hold all that a Book or a Deal tells of its entries against a state."""
    test.assertEqual(holder.names(), sorted(state.entries))
    test.assertEqual(holder.order(), state.order())
    for name, words in state.entries.items():
        test.assertEqual(holder.program(name).words, words)
        kind, rest = holder.kind(name), holder.rest(name)
        test.assertEqual(None if kind is None else kind.words, state.kind(name))
        test.assertEqual(None if rest is None else rest.words, state.rest(name))
        test.assertTrue(kind is None or isinstance(kind, Kind))
        test.assertTrue(rest is None or isinstance(rest, Program))
        test.assertEqual(holder.uses(name), state.uses(name))
        test.assertEqual(holder.users(name), state.users(name))
        look_why(test, holder.why(name), state, name)


def look_why(test, told, state, name):
    """Hold what why tells against a state."""
    if state.is_whole(name):
        test.assertIsNone(told)
    elif state.lacking(name):
        test.assertEqual(told, ("lacking", state.lacking(name)[0]))
    else:
        test.assertEqual((type(told), len(told), told[0], type(told[1])), (tuple, 2, "ring", tuple))
        row = told[1]
        test.assertTrue(row and len(set(row)) == len(row) and set(row) <= state.come_to(name) & set(state.entries))
        test.assertTrue(all(use in state.uses(row[at - 1]) for at, use in enumerate(row)))


NAMES = ("a", "bb", "c", "dd", "e")
# Programs with no, one and two of these names open; the takes have other names.
POOL = [tuple("/" + word[1:] + "t" if word[0] == "/" else word + "t" if "/" + word in words else word for word in words)
        for names in ((), ("a",), ("bb",), ("c",), ("dd",), ("e",), ("a", "bb"), ("e", "bb"), ("c", "a"), ("dd", "c"))
        for givens in range(2) for words in programs_with(givens, names)]
# The closed ones stand first.
CLOSED = sum(not open_in(words) for words in POOL)
