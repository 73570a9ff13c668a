"""In how many ways numbers below m flow along wires, none of them 0, as much into each knot as out of it."""


def flow_polynomial(pairs):
    """Return the tuple of the integers c0, c1, .. for how many flows there are by m; a pair is the ends of a wire.

    Each choice of wires counts m to the number of rings in it, with a sign by how many wires are left out.
    The knots are gone through one behind another: of each choice it is kept alone which of those that
    still have wires ahead hang together, so that choices that are alike in this are counted as one.
    """
    left = list(pairs)
    row = []
    counts = {(): [1]}
    while left:
        knot = next_knot(left, row)
        own = [pair for pair in left if knot in pair]
        left = [pair for pair in left if knot not in pair]
        for pair in own:
            for end in pair:
                if end not in row:
                    row.append(end)
                    counts = grown(counts)
            counts = wired(counts, row.index(pair[0]), row.index(pair[1]))
        for end in list(row):
            if not any([end in pair for pair in left]):
                counts = dropped(counts, row.index(end))
                row.remove(end)
    return trimmed(counts[()])


def next_knot(left, row):
    """Return the knot whose wires bring in the fewest knots that are not in the row."""
    return min([(brought_in(left, row, knot), knot) for pair in left for knot in pair])[1]


def brought_in(left, row, knot):
    """Return how many knots come into the row by the wires of a knot."""
    return len({end for pair in left if knot in pair for end in pair if end not in row})


def grown(counts):
    """Return the counts with one knot more, that hangs together with none."""
    return {groups + (len(set(groups)),): row for groups, row in counts.items()}


def wired(counts, one, other):
    """Return the counts with a wire between two knots, told by their indexes, which is chosen or left out."""
    found = {}
    for groups, row in counts.items():
        count_in(found, groups, [-count for count in row])
        if groups[one] == groups[other]:
            # It closes a ring.
            count_in(found, groups, [0] + row)
        else:
            count_in(found, regrouped([groups[one] if group == groups[other] else group for group in groups]), row)
    return found


def dropped(counts, at):
    """Return the counts without the knot at an index."""
    found = {}
    for groups, row in counts.items():
        count_in(found, regrouped(groups[:at] + groups[at + 1:]), row)
    return found


def regrouped(groups):
    """Return the tuple of the groups, numbered in the order in which they come first."""
    numbers = {}
    for group in groups:
        numbers.setdefault(group, len(numbers))
    return tuple([numbers[group] for group in groups])


def count_in(counts, groups, row):
    """Add a row of integers to the one that is kept for these groups."""
    kept = counts.get(groups, [])
    longer, shorter = (row, kept) if len(row) > len(kept) else (kept, row)
    counts[groups] = [count + (shorter[at] if at < len(shorter) else 0) for at, count in enumerate(longer)]


def trimmed(row):
    """Return the tuple of a row up to the last integer that is not 0."""
    ends = [at + 1 for at, count in enumerate(row) if count != 0]
    return tuple(row[:max(ends)]) if ends else ()
