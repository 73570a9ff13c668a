"""Kinds as nodes that are made the same ones, so that nothing is written out before it is known how great it is."""

from oncekinds.errors import TooMany
from oncekinds.kinds import INTO, kind_of


class Nodes:
    """Letters and pairs of a left and a right, each with a number, some of them made the same ones."""

    def __init__(self):
        self.heads = []
        self.lefts = []
        self.rights = []

    def letter(self):
        """Return the node of a letter that is none of those that are here."""
        return self.pair(None, None)

    def pair(self, left, right):
        """Return the node of a kind with this left and this right."""
        self.heads.append(len(self.heads))
        self.lefts.append(left)
        self.rights.append(right)
        return len(self.heads) - 1

    def take_in(self, kind):
        """Return the node of a kind, whose letters are none of those that are here."""
        letters = {}
        ready = []
        # From the last word on, the left and the right of each ">" are ready, the left on top.
        for word in reversed(kind.words):
            if word == INTO:
                left = ready.pop()
                ready.append(self.pair(left, ready.pop()))
            else:
                if word not in letters:
                    letters[word] = self.letter()
                ready.append(letters[word])
        return ready[0]

    def head(self, node):
        """Return the node that speaks for all that were made the same as this one."""
        while self.heads[node] != node:
            # Later asks are to find a shorter way.
            self.heads[node] = self.heads[self.heads[node]]
            node = self.heads[node]
        return node

    def unite(self, node, other):
        """Make both nodes the same one, and so their lefts and their rights."""
        waiting = [(node, other)]
        while waiting:
            one, two = waiting.pop()
            one, two = self.head(one), self.head(two)
            if one == two:
                continue
            if self.lefts[one] is None:
                one, two = two, one
            # A letter follows the other one; of two pairs the parts become the same, too.
            if self.lefts[two] is not None:
                waiting.append((self.rights[one], self.rights[two]))
                waiting.append((self.lefts[one], self.lefts[two]))
            self.heads[two] = one

    def parts(self, node):
        """Return the list of the heads of the left and of the right, [] for a letter."""
        if self.lefts[node] is None:
            return []
        return [self.head(self.lefts[node]), self.head(self.rights[node])]

    def in_order(self):
        """Return the list of all heads, each ahead of its parts, or None if one would lie within itself."""
        tops = [node for node in range(len(self.heads)) if self.heads[node] == node]
        uses = [0] * len(self.heads)
        for node in tops:
            for part in self.parts(node):
                uses[part] += 1
        ready = [node for node in tops if uses[node] == 0]
        row = []
        while ready:
            node = ready.pop()
            row.append(node)
            for part in self.parts(node):
                uses[part] -= 1
                if uses[part] == 0:
                    ready.append(part)
        # Those that lie within themselves are always in use, so they are left over.
        return row if len(row) == len(tops) else None

    def kinds(self, wanted, most):
        """Return the list of the Kinds of some nodes, letters numbered as they come, or None if there are none.

        TooMany is raised for more words in all of them; most is None where there is no bound.
        """
        row = self.in_order()
        if row is None:
            return None
        if most is not None and self.are_longer(row, wanted, most):
            raise TooMany(most)
        return self.written(wanted)

    def are_longer(self, row, wanted, most):
        """Tell whether some nodes have more words in all; the row holds all heads, each ahead of its parts."""
        lengths = [1] * len(self.heads)
        for node in reversed(row):
            # What doubles again and again isn't counted to its end.
            lengths[node] = min(most + 1, 1 + sum([lengths[part] for part in self.parts(node)]))
        return sum([lengths[self.head(node)] for node in wanted]) > most

    def written(self, wanted):
        """Return the list of the Kinds of some nodes, letters numbered as they come."""
        letters = {}
        found = []
        for start in wanted:
            words = []
            waiting = [start]
            while waiting:
                node = self.head(waiting.pop())
                if self.lefts[node] is None:
                    words.append(letters.setdefault(node, len(letters)))
                else:
                    words.append(INTO)
                    waiting.extend([self.rights[node], self.lefts[node]])
            found.append(kind_of(tuple(words)))
        return found
