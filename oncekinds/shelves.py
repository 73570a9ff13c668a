"""Entries and their kinds; what an edit can't change is not worked out anew."""

from heapq import heappop, heappush

from oncekinds.basics import is_name
from oncekinds.deeds import AFTER, Deed
from oncekinds.errors import NoName, NoProgram, Unknown
from oncekinds.kinding import widest_with
from oncekinds.programs import MOST_WORDS, Program, open_names
from oncekinds.reading import program_of

MOST_KIND_WORDS = 4000


class Shelf:
    """Names with their Programs, what these use, and the kinds of the whole ones."""

    def __init__(self):
        self.entries = {}
        self.known = {}
        self.needs = {}
        self.needed_by = {}

    def copied(self):
        """Return a Shelf that goes on apart."""
        other = Shelf()
        other.entries = dict(self.entries)
        other.known = dict(self.known)
        other.needs = dict(self.needs)
        other.needed_by = {name: dict(row) for name, row in self.needed_by.items()}
        return other

    def put(self, name, program):
        """Keep a program under a name, and return the Deed."""
        if not is_name(name):
            raise NoName()
        if not isinstance(program, Program) or len(program.words) > MOST_WORDS:
            raise NoProgram()
        return self.edited(name, program)

    def drop(self, name):
        """Keep nothing under a name, and return the Deed."""
        self.check_there(name)
        return self.edited(name, None)

    def edited(self, name, program):
        """Return the Deed of an edit, having done it; the program is None for a drop."""
        kinds = self.kinds_behind(name, program)
        pairs = {one: (self.known.get(one), kind) for one, kind in kinds.items()}
        deed = Deed({name: (self.entries.get(name), program)}, pairs)
        self.lead(deed, AFTER)
        return deed

    def check_there(self, name):
        """Raise Unknown for what is not the name of an entry."""
        if not is_name(name) or name not in self.entries:
            raise Unknown(name)

    def lead(self, deed, side):
        """Go to the one side of a deed from the other one."""
        for name, pair in deed.program_pairs.items():
            self.keep(name, pair[side])
        for name, pair in deed.kind_pairs.items():
            self.known.pop(name, None)
            if pair[side] is not None:
                self.known[name] = pair[side]

    def keep(self, name, program):
        """Keep a program, or None, under a name, whatever this does to the kinds."""
        for use in self.needs.get(name, []):
            self.needed_by[use].pop(name)
        self.entries.pop(name, None)
        self.needs.pop(name, None)
        if program is not None:
            self.entries[name] = program
            self.needs[name] = sorted(open_names(program))
            for use in self.needs[name]:
                self.needed_by.setdefault(use, {})[name] = True

    def kinds_behind(self, name, program):
        """Return the dict from the names whose kinds an edit changes to these kinds, None for what isn't whole then."""
        needs = [] if program is None else sorted(open_names(program))
        if name not in self.known and (program is None or not all([use in self.known for use in needs])):
            # It wasn't whole, and what it lacks can't become whole by way of itself.
            return {}
        reached = self.reached_from(name)
        waits = {one: self.awaited(self.needs.get(one, []), reached) for one in reached}
        waits[name] = [name] if program is None else self.awaited(needs, reached)
        row = in_turn(waits)
        found = {}
        for one in row:
            # What uses nothing of another kind keeps its own kind.
            if one == name:
                self.work_out(one, program, needs, found)
            elif any([use in found for use in self.needs[one]]):
                self.work_out(one, self.entries[one], self.needs[one], found)
        whole = set(row)
        for one in reached:
            if one in self.known and one not in whole:
                found[one] = None
        return found

    def work_out(self, name, program, needs, found):
        """Put the kind of an entry under its name if it is another one than it was."""
        kinds = {use: found.get(use, self.known.get(use)) for use in needs}
        kind = widest_with(program, kinds, MOST_KIND_WORDS)
        if kind != self.known.get(name):
            found[name] = kind

    def reached_from(self, name):
        """Return the dict whose keys are a name and all entries that come to it along uses."""
        found = {name: True}
        waiting = [name]
        while waiting:
            one = waiting.pop()
            for user in self.needed_by.get(one, {}):
                if user not in found:
                    found[user] = True
                    waiting.append(user)
        return found

    def awaited(self, needs, reached):
        """Return the list of the uses that are reached by an edit, or are not whole without it either."""
        return [use for use in needs if use in reached or use not in self.known]

    def worked_by(self, deed):
        """Return the ascending list of the whole entries that a deed touches, or of whose uses it changed a kind."""
        near = list(deed.program_pairs)
        for name in deed.kind_pairs:
            near.extend(list(self.needed_by.get(name, {})))
        return sorted({name for name in near if name in self.known})

    def names(self):
        """Return the ascending list of the names."""
        return sorted(self.entries)

    def program(self, name):
        """Return the Program under a name."""
        self.check_there(name)
        return self.entries[name]

    def kind(self, name):
        """Return the Kind of an entry, None for one that is not whole."""
        self.check_there(name)
        return self.known.get(name)

    def rest(self, name):
        """Return the rest of an entry's meaning, read off its kind, None for one that is not whole."""
        self.check_there(name)
        return program_of(self.known[name]) if name in self.known else None

    def why(self, name):
        """Return the pair that tells why an entry is not whole, None for a whole one."""
        self.check_there(name)
        if name in self.known:
            return None
        lacking = self.lacking_from(name)
        return ("lacking", min(lacking)) if lacking else ("ring", self.ring_from(name))

    def lacking_from(self, name):
        """Return the list of the names that are come to along uses, but are not there."""
        met = {name: True}
        waiting = [name]
        found = []
        while waiting:
            one = waiting.pop()
            if one not in self.entries:
                found.append(one)
            for use in self.needs.get(one, []):
                if use not in met:
                    met[use] = True
                    waiting.append(use)
        return found

    def ring_from(self, name):
        """Return a tuple of entries that are come to, each using the next one and the last the first."""
        row = []
        indexes = {}
        while name not in indexes:
            indexes[name] = len(row)
            row.append(name)
            # Of an entry that isn't whole, and comes to nothing that isn't there, some use isn't whole.
            name = [use for use in self.needs[name] if use not in self.known][0]
        return tuple(row[indexes[name]:])

    def uses(self, name):
        """Return the ascending list of the uses of an entry."""
        self.check_there(name)
        return list(self.needs[name])

    def users(self, name):
        """Return the ascending list of the entries that use a name."""
        if not is_name(name):
            raise NoName()
        return sorted(self.needed_by.get(name, {}))

    def order(self):
        """Return the list of all whole entries, each behind those that it uses, always the least that can come next."""
        return in_turn(self.needs)


def in_turn(waits):
    """Return the list of names, each behind all for which it waits, always the least that can come next.

    Waits is a dict from names to lists of names; who waits for what never comes is left out.
    """
    counts = {name: len(row) for name, row in waits.items()}
    waiting = {}
    for name, row in waits.items():
        for other in row:
            waiting.setdefault(other, []).append(name)
    ready = []
    for name, count in counts.items():
        if count == 0:
            heappush(ready, name)
    found = []
    while ready:
        name = heappop(ready)
        found.append(name)
        for other in waiting.get(name, []):
            counts[other] -= 1
            if counts[other] == 0:
                heappush(ready, other)
    return found
