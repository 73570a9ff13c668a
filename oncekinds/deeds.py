"""What a deed changes, so that it can be taken back and done again."""

BEFORE = 0
AFTER = 1


class Deed:
    """The programs of the names that it touches, and the kinds that it changes.

    Both are dicts from names to pairs: what was there ahead of it, and what is there behind it, None for nothing.
    """

    def __init__(self, program_pairs, kind_pairs):
        self.program_pairs = program_pairs
        self.kind_pairs = kind_pairs


def joined(deeds):
    """Return the one Deed that does what deeds do one behind another."""
    kinds = led_through([deed.kind_pairs for deed in deeds])
    changed = {name: pair for name, pair in kinds.items() if pair[BEFORE] != pair[AFTER]}
    return Deed(led_through([deed.program_pairs for deed in deeds]), changed)


def led_through(rows):
    """Return the dict from all names to the pairs of what was there at first and what is there at last."""
    found = {}
    for row in rows:
        for name, pair in row.items():
            found[name] = (found.get(name, pair)[BEFORE], pair[AFTER])
    return found
