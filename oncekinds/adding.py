"""Kinds as numbers that are added: sums, values with none of them nought, and how many such values there are."""

from oncekinds.basics import is_number
from oncekinds.errors import NoNumber, NoValues, TooMany
from oncekinds.flows import flow_polynomial
from oncekinds.programs import GIVEN, check_closed, ends_of, stands_as_name, taken_names, takes
from oncekinds.webs import threads

MOST_TRIED = 8
MOST_TAKES = 10


def sums(program, m, values):
    """Return the tuple of the sums at all places."""
    check_closed(program)
    check_divisor(m)
    if not is_values(program, m, values):
        raise NoValues()
    return sums_by(program, m, values)


def check_divisor(thing):
    """Raise NoNumber for what is no integer from 1 on."""
    if not is_number(thing) or thing < 1:
        raise NoNumber()


def is_values(program, m, thing):
    """Tell whether a thing is a tuple of numbers below m, one for each take."""
    if not isinstance(thing, tuple) or len(thing) != takes(program):
        return False
    return all([is_number(value) and value < m for value in thing])


def sums_by(program, m, values):
    """Return the tuple of the sums at all places for what is known to be values."""
    return tuple([whole % m for whole in wholes(program.words, dict(zip(taken_names(program), values)))])


def wholes(words, worths):
    """Return the list that tells for each place how much the open names of its part are worth."""
    behind = ends_of(words)
    found = [0] * len(words)
    for place in reversed(range(len(words))):
        if words[place] == GIVEN:
            found[place] = found[place + 1] + found[behind[place + 1]]
        elif stands_as_name(words[place]):
            found[place] = worths[words[place]]
        else:
            found[place] = found[place + 1] - worths[words[place][1:]]
    return found


def is_ones(program, m, thing):
    """Tell whether a thing is a tuple of values with which no part but the whole has the sum 0."""
    check_closed(program)
    check_divisor(m)
    return is_values(program, m, thing) and 0 not in sums_by(program, m, thing)[1:]


def ones(program, m):
    """Return a tuple of values with which no part but the whole has the sum 0, or None."""
    check_closed(program)
    check_divisor(m)
    if m > MOST_TRIED:
        raise NoNumber()
    check_takes(program)
    if closed_part(program) is not None:
        return None
    return values_tried(sums_at_takes(program), m)


def check_takes(program):
    """Raise TooMany for more than 10 takes."""
    if takes(program) > MOST_TAKES:
        raise TooMany(MOST_TAKES)


def sums_at_takes(program):
    """Return for each take the list of the parts, but the whole, of whose open names it is the last taken one.

    A part is told by the list of the indexes of the takes of its open names.
    """
    words = program.words
    behind = ends_of(words)
    indexes = {name: index for index, name in enumerate(taken_names(program))}
    found = [[] for _ in indexes]
    rows = [[] for _ in words]
    for place in reversed(range(1, len(words))):
        if words[place] == GIVEN:
            rows[place] = rows[place + 1] + rows[behind[place + 1]]
        elif stands_as_name(words[place]):
            rows[place] = [indexes[words[place]]]
        else:
            rows[place] = [index for index in rows[place + 1] if index != indexes[words[place][1:]]]
        found[max(rows[place])].append(rows[place])
    return found


def values_tried(parts, m):
    """Return the first tuple of values with which none of the parts at any take has the sum 0, or None."""
    values = [0] * len(parts)
    at = 0
    while 0 <= at < len(parts):
        values[at] += 1
        if values[at] == m:
            values[at] = 0
            at -= 1
        # Later values don't change these sums, so the next value waits until they are right.
        elif all([sum([values[index] for index in part]) % m > 0 for part in parts[at]]):
            at += 1
    return tuple(values) if at == len(parts) else None


def many_ones(program, m):
    """Return with how many values no part but the whole has the sum 0."""
    check_closed(program)
    check_divisor(m)
    found = 0
    for count in reversed(polynomial(program)):
        found = found * m + count
    return found


def polynomial(program):
    """Return the tuple of the integers c0, c1, .. with which many_ones is c0 + c1 m + c2 m ** 2 + .. for each m."""
    check_closed(program)
    check_takes(program)
    # A value for each take is a flow along the wires: at each place as much goes in as comes out.
    return flow_polynomial(threads(program.words))


def closed_part(program):
    """Return the least place but 0 at which the part is closed, or None."""
    check_closed(program)
    counts = wholes(program.words, {name: 1 for name in taken_names(program)})
    for place, count in enumerate(counts):
        if place > 0 and count == 0:
            return place
    return None
