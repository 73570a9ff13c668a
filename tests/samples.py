"""Objects and programs that several tests use; nothing here asks the package what is right."""

from itertools import count, islice, product

from oncekinds.books import Book
from oncekinds.desk import Desk
from oncekinds.errors import BadKind, BadProgram, NoPlace, Unknown
from oncekinds.kinds import Kind
from oncekinds.live import Run
from oncekinds.programs import Program

SIGNS = "abcdefghijklmnopqrstuvwxyz"


def all_letterings():
    """Go over a, b, .., z, aa, ab, .., zz, aaa, .. without an end."""
    for length in count(1):
        for row in product(SIGNS, repeat=length):
            yield "".join(row)


def letterings(many):
    """Return the list of the first so many of a, b, .., z, aa, .."""
    return list(islice(all_letterings(), many))


def inside(wrap, core, times):
    """Return a core that lies so many times in what wrap makes of it."""
    for _ in range(times):
        core = wrap(core)
    return core


def nested_things():
    """Return lists, tuples and dicts that hold one another 40 deep."""
    return [
        inside(lambda thing: [thing], "x", 40),
        inside(lambda thing: (thing,), "x", 40),
        inside(lambda thing: {"x": thing}, 0, 40),
        inside(lambda thing: [(thing,)], Program(("x",)), 20),
        inside(lambda thing: (thing,), Kind((0,)), 40),
    ]


def things():
    """Return objects of the built-in kinds and of the package's classes."""
    return [
        None, True, False, 0, 1, -1, 10 ** 39, -10 ** 39, "", "a", "x", "@", "/x", "A", "\n", b"", b"x",
        [], ["x"], [["x"]], (), ("x",), (("x",),), {}, {"x": "y"}, {1: 2}, bytearray(b"x"), memoryview(b"x"),
        range(3), slice(1, 2), iter(["x"]), object(), int, str, len, ..., NotImplemented,
        ValueError("x"), BadProgram(3), NoPlace(), Unknown("x"), Program, Program(("x",)), Program(("/x", "x")),
        BadKind(3), Kind, Kind((0,)), Kind((">", 0, 0)), Run(Program(("x",))), Book, Book(), Book().deal(), Desk, Desk(),
    ] + nested_things()


def draws(seed):
    """Go over numbers that look drawn, but are the same ones each time."""
    number = seed
    while True:
        number = (number * 1103515245 + 12345) % 2 ** 31
        yield number // 2 ** 8


def fresh(many):
    """Return so many unlike names that are none of the first in the row a, b, .."""
    return ["q" + name for name in letterings(many)]


def first_unlike(told, wanted):
    """Return where two rows are unlike first, or None; assertEqual takes minutes to tell long rows apart."""
    if type(told) is not type(wanted):
        return -1
    for at, (one, other) in enumerate(zip(told, wanted)):
        if one != other:
            return at
    return None if len(told) == len(wanted) else min(len(told), len(wanted))


def leftward(names, taken):
    """Return the words of a program whose givens lie one within another, each to the left."""
    return spelled(names, taken, lambda words, name, at: ("@",) + words + (name,))


def rightward(names, taken):
    """Return the words of a program whose givens lie one within another, each to the right."""
    return spelled(names, taken, lambda words, name, at: ("@", name) + words)


def by_turns(names, taken):
    """Return the words of a program whose givens lie one within another, left and right by turns."""
    def joined(words, name, at):
        return ("@",) + words + (name,) if at % 2 else ("@", name) + words
    return spelled(names, taken, joined)


def spelled(names, taken, joined):
    """Return words built from the inside: a name joined at a time, and taken at once if it is told so."""
    words = (names[0],)
    if names[0] in taken:
        words = ("/" + names[0],) + words
    for at, name in enumerate(names[1:]):
        words = joined(words, name, at)
        if name in taken:
            words = ("/" + name,) + words
    return words


SHAPES = (leftward, rightward, by_turns)


def applied_row(rows):
    """Return the words of the first part given the second, this given the third, and so on from the left."""
    return ("@",) * (len(rows) - 1) + tuple(word for row in rows for word in row)


def selves(many):
    """Return so many programs that take a name and are this name, in words."""
    return [("/" + name, name) for name in fresh(many)]


def selves_inside(many):
    """Return the words of so many that take a name and are this name, each given the next one with all behind it."""
    row = selves(many)
    return tuple(word for self in row[:-1] for word in ("@",) + self) + row[-1]
