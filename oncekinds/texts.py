"""Programs and kinds as texts, and back again."""

from oncekinds.basics import LETTERS, MOST_LETTERS, lettered
from oncekinds.errors import BadText
from oncekinds.kinds import INTO, Kind, kind_ends
from oncekinds.programs import GIVEN, TAKE, Program, stands_as_name

ARROW = " > "
MOST_SIGNS = 2


def text(program):
    """Return the text of a program."""
    pieces = []
    # For each round bracket that is open: whether the text of f has ended.
    halves = []
    for word in program.words:
        if word == GIVEN:
            pieces.append("(")
            halves.append(False)
        elif not stands_as_name(word):
            pieces.append("[" + word[1:] + "] ")
        else:
            pieces.append(word)
            while halves and halves[-1]:
                pieces.append(")")
                halves.pop()
            if halves:
                pieces.append(" ")
                halves[-1] = True
    return "".join(pieces)


def read(text):
    """Return the Program of a text."""
    check_string(text)
    words = []
    halves = []
    at = 0
    going = True
    while going:
        sign = text[at:at + 1]
        if sign == "(":
            words.append(GIVEN)
            halves.append(False)
            at += 1
        elif sign == "[":
            end = letters_end(text, at + 1, MOST_LETTERS)
            words.append(TAKE + text[at + 1:end])
            at = behind(text, end, "] ")
        else:
            end = letters_end(text, at, MOST_LETTERS)
            words.append(text[at:end])
            at = end
            while halves and halves[-1]:
                at = behind(text, at, ")")
                halves.pop()
            going = len(halves) > 0
            if going:
                at = behind(text, at, " ")
                halves[-1] = True
    check_end(text, at)
    return Program(tuple(words))


def check_string(thing):
    """Raise BadText for what is no string."""
    if not isinstance(thing, str):
        raise BadText(-1)


def check_end(signs, at):
    """Raise BadText if a text goes on."""
    if at < len(signs):
        raise BadText(at)


def behind(signs, at, wanted):
    """Return the index behind the wanted signs; BadText if others stand at an index of a text, or none."""
    for sign in wanted:
        if signs[at:at + 1] != sign:
            raise BadText(at)
        at += 1
    return at


def letters_end(signs, at, most):
    """Return the index behind the letters at an index of a text, at most so many; BadText if there is none."""
    end = at
    while end < min(at + most, len(signs)) and signs[end] in LETTERS:
        end += 1
    if end == at:
        raise BadText(at)
    return end


def kind_text(kind):
    """Return the text of a kind."""
    words = kind.words
    ends = kind_ends(words)
    pieces = []
    waiting = [0]
    while waiting:
        piece = waiting.pop()
        if isinstance(piece, str):
            pieces.append(piece)
        elif words[piece] != INTO:
            pieces.append(lettered(words[piece]))
        elif words[piece + 1] != INTO:
            waiting.extend([ends[piece + 1], ARROW, piece + 1])
        else:
            waiting.extend([ends[piece + 1], ")" + ARROW, piece + 1, "("])
    return "".join(pieces)


def read_kind(text):
    """Return the Kind of a text."""
    check_string(text)
    words = []
    # For each kind that is being read, one within another: whether it has a left.
    lefts = [False]
    at = 0
    while lefts:
        if text[at:at + 1] == "(":
            words.append(INTO)
            lefts[-1] = True
            lefts.append(False)
            at += 1
        else:
            end = letters_end(text, at, MOST_SIGNS)
            letter = letter_of(text[at:end])
            # What stands in brackets has a left itself, so it doesn't end with its first letter.
            may_end = lefts[-1] or len(lefts) == 1
            if may_end and text[end:end + 1] != " ":
                words.append(letter)
                lefts.pop()
                at = behind(text, end, ")" + ARROW) if lefts else end
            else:
                words.extend([INTO, letter])
                lefts[-1] = True
                at = behind(text, end, ARROW)
    check_end(text, at)
    return Kind(tuple(words))


def letter_of(signs):
    """Return the letter that is written with these one or two signs."""
    letter = 0
    for sign in signs:
        # No sign is a nought, so each turn counts from 1.
        letter = letter * len(LETTERS) + LETTERS.index(sign) + 1
    return letter - 1
