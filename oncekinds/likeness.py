"""Programs that are told apart by their widest kinds, and those that callers can't tell apart."""

from oncekinds.errors import TooMany
from oncekinds.filling import common_within
from oncekinds.kinding import widest
from oncekinds.kinds import is_even
from oncekinds.programs import check_closed


def alike(program, other):
    """Tell whether two closed programs have one rest, but for the names of what is taken."""
    return parting(program, other) is None


def parting(program, other):
    """Return the first index at which the words of both widest kinds are unlike, or None."""
    check_closed(program)
    check_closed(other)
    # No kind goes on where another one ends, so both rows are as long if none is unlike.
    for at, (word, opposite) in enumerate(zip(widest(program).words, widest(other).words)):
        if word != opposite:
            return at
    return None


def callers_kind(program, other):
    """Return the widest even Kind that comes of both widest kinds by filling, or None."""
    check_closed(program)
    check_closed(other)
    kind, opposite = widest(program), widest(other)
    try:
        # If it is even, each of its letters stands where a letter of one of both stands, so it is no longer than both.
        found = common_within(kind, opposite, len(kind.words) + len(opposite.words))
    except TooMany:
        return None
    return found if is_even(found) else None


def callers_alike(program, other):
    """Tell whether some even kind comes of both widest kinds by filling."""
    return callers_kind(program, other) is not None
