"""How many programs there are, and the order in which the closed ones are numbered."""

from math import comb

from oncekinds.basics import is_number, lettered
from oncekinds.errors import NoNumber, TooMany
from oncekinds.programs import GIVEN, TAKE, Program, built, check_closed, stands_as_name

MOST_COUNTED = 40
MOST_NUMBERED = 12
MOST_LISTED = 3


def many(givens, names):
    """Return how many programs have so many givens and open names."""
    check_counts(givens, names)
    return count_at(rows_to(givens, all_choices, False), givens, names)


def many_rests(givens, names):
    """Return how many rests have so many givens and open names."""
    check_counts(givens, names)
    return count_at(rows_to(givens, all_choices, True), givens, names)


def many_in_order(givens, names):
    """Return how many programs in order have so many givens and open names."""
    check_counts(givens, names)
    return count_at(rows_to(givens, eldest_choice, False), givens, names)


def check_counts(givens, names):
    """Raise NoNumber for what is no number from 0 to 40."""
    for thing in (givens, names):
        if not is_number(thing) or thing > MOST_COUNTED:
            raise NoNumber()


def all_choices(names, own):
    """Return in how many ways so many of the names can be those of f."""
    return comb(names, own)


def eldest_choice(names, own):
    """Return in how many ways so many of the names can be those of f if these are to be the eldest."""
    return 1


def rows_to(most, choices, rests):
    """Return for 0, 1, .. up to the most givens the list of how many programs have 0, 1, .. open names.

    The choices tell in how many ways names become those of f. Where rests are counted, f is none that takes.
    """
    firsts = []
    rows = []
    for givens in range(most + 1):
        # Without givens there is one name, and nothing else that takes nothing.
        row = [giving(firsts, rows, names, choices) for names in range(givens + 2)]
        if givens == 0:
            row[1] = 1
        whole = list(row)
        # What takes has a body with one open name more.
        for names in reversed(range(givens + 1)):
            whole[names] += whole[names + 1]
        rows.append(whole)
        firsts.append(row if rests else whole)
    return rows


def giving(firsts, rows, names, choices):
    """Return how many programs give, with so many open names, and with one given more than rows has in it."""
    found = 0
    for less in range(len(rows)):
        worths = splits(firsts[less], rows[len(rows) - 1 - less], names)
        found += sum([choices(names, own) * worth for own, worth in enumerate(worths) if worth > 0])
    return found


def splits(firsts, rows, names):
    """Return the list that tells for 0, 1, .. names of f how many pairs of f and a there are."""
    # Fewer names of f would leave more for a than can stand there.
    least = max(0, names + 1 - len(rows))
    most = min(names + 1, len(firsts))
    pairs = [firsts[own] * rows[names - own] for own in range(least, most)]
    return [0] * least + pairs + [0] * (names + 1 - max(least, most))


def count_at(rows, givens, names):
    """Return how many programs have so many givens and open names; there is none with more names than can stand."""
    return rows[givens][names] if names < len(rows[givens]) else 0


def is_in_order(program):
    """Tell whether the open names of each part of a closed program stand there by age, the eldest first."""
    if not isinstance(program, Program):
        return False
    check_closed(program)
    words = program.words
    # What is taken further within stands further behind and is younger, so the place of the take tells the age.
    ages = {word[1:]: place for place, word in enumerate(words) if word.startswith(TAKE)}
    ready = []
    for place in reversed(range(len(words))):
        if words[place] == GIVEN:
            row, more = ready.pop(), ready.pop()
            if row and more and row[-1] > more[0]:
                return False
            ready.append(row + more)
        elif stands_as_name(words[place]):
            ready.append([ages[words[place]]])
        else:
            # It is the youngest of its body's names, so it stands last.
            ready[-1].pop()
    return True


def program_at(givens, number):
    """Return the standard closed Program with so many givens that has this number in the order."""
    if not is_number(givens) or givens > MOST_NUMBERED:
        raise NoNumber()
    rows = rows_to(givens, all_choices, False)
    if not is_number(number) or number >= rows[givens][0]:
        raise NoNumber()
    return numbered_in(rows, givens, number)


def numbered_in(rows, givens, number):
    """Return the Program that program_at tells; the rows are those of the counts."""
    told = []
    taken = 0
    waiting = [(givens, [], number)]
    while waiting:
        inner, names, rank = waiting.pop()
        taking = count_at(rows, inner, len(names) + 1)
        if rank < taking:
            name = lettered(taken)
            taken += 1
            told.append(TAKE + name)
            waiting.append((inner, names + [name], rank))
        elif inner == 0:
            told.append(names[0])
        else:
            told.append(GIVEN)
            first, second = pair_at(rows, inner, names, rank - taking)
            waiting.extend([second, first])
    return built(tuple(told))


def pair_at(rows, givens, names, rank):
    """Return f and a, each as its givens, its names by age and its rank, of the pair with a rank among those."""
    for less in range(givens):
        worths = splits(rows[less], rows[givens - 1 - less], len(names))
        pairs = block(worths, len(names), 0, 0)
        if rank < pairs:
            break
        rank -= pairs
    ages, rank = choice_at(worths, len(names), rank)
    own = [names[age] for age in ages]
    others = [name for age, name in enumerate(names) if age not in ages]
    one, other = divmod(rank, count_at(rows, givens - 1 - less, len(others)))
    return (less, own, one), (givens - 1 - less, others, other)


def block(worths, many_names, size, age):
    """Return how many pairs there are whose f has just so many names below an age, these being told."""
    left = many_names - age
    return sum([comb(left, more) * worths[size + more] for more in range(left + 1)])


def choice_at(worths, many_names, rank):
    """Return the ascending list of the ages of f's names for a rank, and the rank among those with just these."""
    ages = []
    age = 0
    # Ahead of all tuples that go on comes the one that ends here.
    while rank >= worths[len(ages)]:
        rank -= worths[len(ages)]
        while rank >= block(worths, many_names, len(ages) + 1, age + 1):
            rank -= block(worths, many_names, len(ages) + 1, age + 1)
            age += 1
        ages.append(age)
        age += 1
    return ages, rank


def number_of(program):
    """Return the number of a closed program among all with as many givens."""
    check_closed(program)
    words = program.words
    if words.count(GIVEN) > MOST_NUMBERED:
        raise TooMany(MOST_NUMBERED)
    rows = rows_to(words.count(GIVEN), all_choices, False)
    ages = {word[1:]: place for place, word in enumerate(words) if word.startswith(TAKE)}
    ready = []
    for word in reversed(words):
        if word == GIVEN:
            first = ready.pop()
            ready.append(joined(rows, first, ready.pop()))
        elif stands_as_name(word):
            ready.append((0, [ages[word]], 0))
        else:
            # Those that take come first, and the body's youngest name is the one that is taken.
            givens, names, rank = ready.pop()
            ready.append((givens, names[:-1], rank))
    return ready[0][2]


def joined(rows, first, second):
    """Return the givens, the names by age and the rank of f given a, both told likewise."""
    less, own, one = first
    more, others, other = second
    names = sorted(own + others)
    rank = count_at(rows, less + 1 + more, len(names) + 1)
    for fewer in range(less):
        rank += block(splits(rows[fewer], rows[less + more - fewer], len(names)), len(names), 0, 0)
    worths = splits(rows[less], rows[more], len(names))
    rank += rank_of_choice(worths, len(names), [names.index(name) for name in own])
    return less + 1 + more, names, rank + one * count_at(rows, more, len(others)) + other


def rank_of_choice(worths, many_names, ages):
    """Return how many pairs come ahead of those whose f has names of just these ages."""
    rank = 0
    begin = 0
    for size, age in enumerate(ages):
        rank += worths[size]
        rank += sum([block(worths, many_names, size + 1, lesser + 1) for lesser in range(begin, age)])
        begin = age + 1
    return rank


def programs(givens):
    """Return the list of all closed programs with so many givens, in order."""
    if not is_number(givens) or givens > MOST_LISTED:
        raise NoNumber()
    rows = rows_to(givens, all_choices, False)
    return [numbered_in(rows, givens, number) for number in range(rows[givens][0])]
