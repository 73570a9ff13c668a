"""Programs that are read off their kinds."""

from oncekinds.basics import lettered
from oncekinds.kinding import widest
from oncekinds.kinds import INTO, kind_ends, letters_in, sides
from oncekinds.programs import GIVEN, TAKE, built, check_closed, givens


def program_of(kind):
    """Return the standard Program that is read off a kind, or None if the reading comes to a fault."""
    if letter_fault(kind) is not None:
        return None
    words, _ = read_off(kind.words)
    return None if words is None else built(words)


def fault_of(kind):
    """Return the pair that tells the fault for which no program is read off a Kind, or None."""
    fault = letter_fault(kind)
    if fault is None:
        _, fault = read_off(kind.words)
    return fault


def letter_fault(kind):
    """Return the pair that tells the least letter that doesn't stand twice, or else on both sides, or None."""
    stands = {}
    for letter, side in zip(letters_in(kind.words), sides(kind)):
        stands.setdefault(letter, []).append(side)
    for letter in sorted(stands):
        if len(stands[letter]) != 2:
            return ("letter", letter)
    for letter in sorted(stands):
        if stands[letter][0] == stands[letter][1]:
            return ("side", letter)
    return None


def read_off(words):
    """Return the words of the program that is read off an even kind, and the fault; one of both is None."""
    behind = kind_ends(words)
    begins = begins_by_other(words, behind)
    # The names at hand that are not yet used, by the places where their kinds begin.
    hand = {}
    many = 0
    told = []
    waiting = [(0, False)]
    while waiting:
        place, ended = waiting.pop()
        lefts, last = row_at(words, behind, place)
        if ended:
            left_over = [left for left in lefts if left in hand]
            if left_over:
                return None, ("left", left_over[0])
            continue
        for left in lefts:
            hand[left] = lettered(many)
            told.append(TAKE + hand[left])
            many += 1
        begin = begins[last]
        if begin not in hand:
            return None, ("stops", last)
        given, _ = row_at(words, behind, begin)
        told.extend([GIVEN] * len(given))
        told.append(hand.pop(begin))
        # What the name is given is read one behind another, and only then this part is at its end.
        waiting.append((place, True))
        waiting.extend([(left, False) for left in reversed(given)])
    return tuple(told), None


def row_at(words, behind, place):
    """Return the list of the places of A1, .., An of the kind A1 > (.. (An > p)) at a place, and the place of p."""
    lefts = []
    while words[place] == INTO:
        lefts.append(place + 1)
        place = behind[place + 1]
    return lefts, place


def begins_by_other(words, behind):
    """Return the dict that tells for the place of a letter where the kind begins that ends in its other place."""
    begins = [0] * len(words)
    for place, word in enumerate(words):
        if word == INTO:
            # A right is the end of the kind to which it belongs; a left begins anew.
            begins[place + 1] = place + 1
            begins[behind[place + 1]] = begins[place]
    first = {}
    found = {}
    for place, word in enumerate(words):
        if word in first:
            found[place] = begins[first[word]]
            found[first[word]] = begins[place]
        elif word != INTO:
            first[word] = place
    return found


def sorts(program):
    """Return the pair of how many givens the rest has, and how many places of letters the widest kind."""
    check_closed(program)
    leaves = len(letters_in(widest(program).words))
    return (leaves // 2 - 1, leaves)


def steps_by_kind(program):
    """Return how many steps lead to the rest, read off the widest kind alone."""
    many, _ = sorts(program)
    return givens(program) - many
