"""A desk that works by lines."""

from oncekinds.basics import is_name, number_told
from oncekinds.errors import NoLine, NothingDone, Unknown
from oncekinds.filling import given_kind
from oncekinds.kinding import widest
from oncekinds.likeness import alike, callers_alike
from oncekinds.programs import check_closed
from oncekinds.stepping import many_steps, rest, stepped
from oncekinds.texts import kind_text, read, text

# How many names stand behind the words that nothing but names follows.
NAMES_BEHIND = {
    "drop": 1, "undo": 0, "names": 0, "show": 1, "rest": 1, "kind": 1, "steps": 1, "alike": 2, "callers": 2, "give": 2,
}


class Desk:
    """Closed programs under names, and what can be taken back."""

    def __init__(self):
        self.kept = {}
        # For each line that can be taken back: the name, and what was kept under it ahead of the line.
        self.ahead = []

    def tell(self, line):
        """Do a line, and return what it tells."""
        word, names, more = told_apart(line)
        if word == "program":
            return self.change(names[0], read_closed(more))
        if word == "undo":
            return self.take_back()
        if word == "names":
            return " ".join(sorted(self.kept)) if self.kept else "none"
        programs = [self.kept_under(name) for name in names]
        if word == "step":
            return self.change(names[0], stepped(programs[0], more))
        if word == "drop":
            return self.change(names[0], None)
        return shown(word, programs[0], programs[-1])

    def kept_under(self, name):
        """Return what is kept under a name."""
        if name not in self.kept:
            raise Unknown(name)
        return self.kept[name]

    def change(self, name, program):
        """Keep a program under a name, or nothing if it is None."""
        self.ahead.append((name, self.kept.get(name)))
        self.keep(name, program)
        return "ok"

    def keep(self, name, program):
        """Keep a program under a name, or nothing if it is None, as if no line had done it."""
        self.kept.pop(name, None)
        if program is not None:
            self.kept[name] = program

    def take_back(self):
        """Take back the last line that can be taken back."""
        if not self.ahead:
            raise NothingDone()
        name, program = self.ahead.pop()
        self.keep(name, program)
        return "ok"

    def undoable(self):
        """Return how many lines can be taken back."""
        return len(self.ahead)


def told_apart(line):
    """Return the word of a line, the list of its names, and the text or the place behind them, or None."""
    if not isinstance(line, str) or "\n" in line:
        raise NoLine()
    words = line.split(" ")
    names = words[1:]
    if words[0] == "program" and len(words) > 2 and is_name(names[0]):
        # The text is all that stands behind this blank, whatever blanks it has itself.
        return (words[0], names[:1], " ".join(names[1:]))
    if words[0] == "step" and len(words) == 3 and is_name(names[0]) and number_told(names[1]) is not None:
        return (words[0], names[:1], number_told(names[1]))
    if NAMES_BEHIND.get(words[0], -1) == len(names) and all([is_name(name) for name in names]):
        return (words[0], names, None)
    raise NoLine()


def read_closed(signs):
    """Return the closed Program of a text."""
    program = read(signs)
    check_closed(program)
    return program


def shown(word, program, other):
    """Return what a word tells of a program, or of two."""
    if word == "show":
        return text(program)
    if word == "rest":
        return text(rest(program))
    if word == "kind":
        return kind_text(widest(program))
    if word == "steps":
        return str(many_steps(program))
    if word == "give":
        return kind_text(given_kind(widest(program), widest(other)))
    told = alike(program, other) if word == "alike" else callers_alike(program, other)
    return "yes" if told else "no"
