"""Webs that are given as wires, and programs that have them."""

from tests.samples import letterings


def program_with_web(wires, root):
    """Return the words of a program whose web has these wires, and the dict from the knots to their places.

    The knots may be any unlike objects, with three ends of wires each; all hang together. The root is the index of
    the wire that becomes the two wires at 0.
    """
    ends = [list(wire) for at, wire in enumerate(wires) if at != root]
    one, other = wires[root]
    ends += [["leg", "root"], ["root", one], ["root", other]]
    places = {}
    words = grown(ends, len(wires) - 1, iter(letterings(len(wires))), [], places)
    return tuple(words), places


def grown(ends, leg, names, words, places):
    """Write the part that begins with a wire from a leg; the wires' ends are changed."""
    knot = [end for end in ends[leg] if end != "leg"][0]
    if knot[:1] == "=":
        words.append(knot[1:])
        return words
    places[knot] = len(words)
    hands = [(at, side) for at, wire in enumerate(ends) for side in (0, 1) if wire[side] == knot and at != leg]
    (one, here), (other, there) = hands
    ends[leg] = [None, None]
    ends[one][here] = "leg"
    name = next(names)
    if hang_together(ends, one, other, knot):
        words.append("/" + name)
        ends[other][there] = "=" + name
        return grown(ends, one, names, words, places)
    words.append("@")
    grown(ends, one, names, words, places)
    ends[other][there] = "leg"
    return grown(ends, other, names, words, places)


def hang_together(ends, one, other, knot):
    """Tell whether a way leads from the one wire to the other, but not through a knot."""
    seen, waiting = {one}, [one]
    while waiting:
        for end in ends[waiting.pop()]:
            for at, wire in enumerate(ends):
                if end in wire and at not in seen and end not in ("leg", None, knot) and end[:1] != "=":
                    seen.add(at)
                    waiting.append(at)
    return other in seen


def petersen():
    """Return the wires of the least web without hues of which no part but the whole is closed."""
    return [wire for at in range(5) for wire in (
        (f"o{at}", f"o{(at + 1) % 5}"), (f"o{at}", f"i{at}"), (f"i{at}", f"i{(at + 2) % 5}"))]


def flower():
    """Return the wires of a web of 20 knots without hues, none of its parts but the whole being closed."""
    wires = []
    for at in range(5):
        wires += [(f"a{at}", f"{row}{at}") for row in "bcd"]
        wires.append((f"b{at}", f"b{(at + 1) % 5}"))
        if at < 4:
            wires += [(f"c{at}", f"c{at + 1}"), (f"d{at}", f"d{at + 1}")]
    return wires + [("c4", "d0"), ("d4", "c0")]


def crossed(one, other):
    """Return the wires of a web without hues made of two such, with two knots less than both (a dot product)."""
    one = [tuple("p" + end for end in wire) for wire in one]
    other = [tuple("q" + end for end in wire) for wire in other]
    first = one[0]
    second = next(wire for wire in one if not set(wire) & set(first))
    left, right = other[0]
    begins = [end for wire in other if left in wire for end in wire if end not in (left, right)]
    finals = [end for wire in other if right in wire for end in wire if end not in (left, right)]
    kept = [wire for wire in one if wire not in (first, second)]
    kept += [wire for wire in other if left not in wire and right not in wire]
    return kept + list(zip(first, begins)) + list(zip(second, finals))


def cornered(wires, knot):
    """Return the wires with three knots in the place of one, each joined to the others."""
    corners = iter(knot + sign for sign in "xyz")
    told = [tuple(next(corners) if end == knot else end for end in wire) for wire in wires]
    return told + [(knot + "x", knot + "y"), (knot + "y", knot + "z"), (knot + "x", knot + "z")]


def circle(many, straight):
    """Return the wires of two circles of so many knots each, joined knot by knot; without straight it is one, crossed."""
    wires = [(f"u{at}", f"v{at}") for at in range(many)]
    wires += [(f"{row}{at}", f"{row}{at + 1}") for row in "uv" for at in range(many - 1)]
    last = many - 1
    return wires + ([(f"u{last}", "u0"), (f"v{last}", "v0")] if straight else [(f"u{last}", "v0"), (f"v{last}", "u0")])
