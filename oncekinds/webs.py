"""The web of a closed program: knots with three ends of wires each, and what can be laid on them."""

from oncekinds.basics import is_number
from oncekinds.errors import TooMany
from oncekinds.programs import GIVEN, TAKE, check_closed, ends_of, stands_as_name

MOST_WIRES = 36
HUES = 3


def wires(program):
    """Return the ascending list of the pairs (lesser knot, greater one), one for each wire."""
    check_closed(program)
    pairs = threads(program.words)
    # The two wires at 0 are one, between their other ends; only where a name is all of the body there is none.
    free = [end for pair in pairs if 0 in pair for end in pair if end != 0]
    kept = [pair for pair in pairs if 0 not in pair]
    if free:
        kept.append((free[0], free[1]))
    return sorted([(min(one, other), max(one, other)) for one, other in kept])


def threads(words):
    """Return the list of the pairs of ends of the wires from all places but 0, as if 0 were a knot, too."""
    behind = ends_of(words)
    takes = {word[1:]: place for place, word in enumerate(words) if word.startswith(TAKE)}
    found = []
    for place, word in enumerate(words):
        if not stands_as_name(word):
            parts = [place + 1, behind[place + 1]] if word == GIVEN else [place + 1]
            found.extend([(place, takes.get(words[part], part)) for part in parts])
    return found


def knots(program):
    """Return the ascending list of the places, but 0, of takes and "@"."""
    return [place for place, word in enumerate(program.words) if place > 0 and not stands_as_name(word)]


def neighbours(program):
    """Return the dict from each knot to the list of the knots to which its wires lead."""
    found = {knot: [] for knot in knots(program)}
    for one, other in wires(program):
        found[one].append(other)
        found[other].append(one)
    return found


def camps(program):
    """Return the tuple of flags for the knots, unlike along each wire, or None."""
    near = neighbours(program)
    _, flags = walked(near)
    if clash_in(near, flags) is not None:
        return None
    return tuple([flags[knot] for knot in sorted(near)])


def walked(near):
    """Return the dict from each knot to the one from which it was first come to, and that to a flag.

    Flags are unlike along each wire by which a knot was first come to; the first knot's is True.
    """
    origins = {}
    flags = {}
    waiting = []
    if near:
        waiting.append(min(near))
        flags[min(near)] = True
    while waiting:
        knot = waiting.pop()
        for other in near[knot]:
            if other not in flags:
                flags[other] = not flags[knot]
                origins[other] = knot
                waiting.append(other)
    return origins, flags


def clash_in(near, flags):
    """Return a pair of ends of one wire that have one flag, or None."""
    for knot in sorted(near):
        for other in near[knot]:
            if flags[knot] == flags[other]:
                return (knot, other)
    return None


def odd_ring(program):
    """Return a tuple of an odd number of unlike knots, each joined to the next, the last to the first, or None."""
    near = neighbours(program)
    origins, flags = walked(near)
    pair = clash_in(near, flags)
    if pair is None:
        return None
    one = way_back(origins, pair[0])
    other = way_back(origins, pair[1])
    # Both ways lead to the first knot; the ring turns where they meet.
    while len(one) > 1 and len(other) > 1 and one[-2] == other[-2]:
        one.pop()
        other.pop()
    return tuple(one + other[:-1][::-1])


def way_back(origins, knot):
    """Return the list of the knots from one to the first of all."""
    row = [knot]
    while row[-1] in origins:
        row.append(origins[row[-1]])
    return row


def is_odd_ring(program, thing):
    """Tell whether a thing is a tuple such as odd_ring tells: an odd number of knots, each joined to the next one."""
    near = neighbours(program)
    if not isinstance(thing, tuple) or len(thing) % 2 == 0:
        return False
    if not all([is_number(knot) and knot in near for knot in thing]) or len(set(thing)) < len(thing):
        return False
    return all([knot in near[thing[at - 1]] for at, knot in enumerate(thing)])


def hues(program):
    """Return a tuple with 0, 1 or 2 for each wire, the three at each knot being unlike, or None."""
    rows = wires(program)
    if len(rows) > MOST_WIRES:
        raise TooMany(MOST_WIRES)
    if not all([one != other for one, other in rows]):
        return None
    order = close_order(rows)
    told = hues_in_order([rows[at] for at in order])
    if told is None:
        return None
    found = dict(zip(order, told))
    return tuple([found[at] for at in range(len(rows))])


def close_order(rows):
    """Return the list of the indexes of the wires, always going on at a knot that has most wires ahead."""
    order = []
    ahead = {knot: 0 for row in rows for knot in row}
    while len(order) < len(rows):
        # Where two wires have their hues there is no choice, so a wrong choice is soon seen.
        best = -max([(many, -knot) for knot, many in ahead.items() if many < HUES])[1]
        for at, row in enumerate(rows):
            if best in row and at not in order:
                order.append(at)
                ahead[row[0]] += 1
                ahead[row[1]] += 1
    return order


def hues_in_order(rows):
    """Return the list of hues for the wires of these rows, or None; all choices are tried, one behind another."""
    met = [[k for k in range(at) if rows[k][0] in row or rows[k][1] in row] for at, row in enumerate(rows)]
    chosen = []
    hue = 0
    while len(chosen) < len(rows):
        barred = [chosen[k] for k in met[len(chosen)]]
        # To exchange hues changes nothing, so the first wire has one choice, and the second one two.
        free = [other for other in range(hue, min(len(chosen) + 1, HUES)) if other not in barred]
        if free:
            chosen.append(free[0])
            hue = 0
        elif chosen:
            hue = chosen.pop() + 1
        else:
            return None
    return chosen


def is_hues(program, thing):
    """Tell whether a thing is a tuple with 0, 1 or 2 for each wire, the three at each knot being unlike."""
    rows = wires(program)
    if not isinstance(thing, tuple) or len(thing) != len(rows):
        return False
    if not all([is_number(hue) and hue < HUES for hue in thing]):
        return False
    # A wire from a knot to itself has two of the three ends there, so its pair comes twice.
    ends = [(knot, hue) for row, hue in zip(rows, thing) for knot in row]
    return len(set(ends)) == len(ends)
