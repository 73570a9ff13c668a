"""Kinds whose letters lie deep, in words."""


def lefts(letters):
    """Return the words of a kind that has its letters within lefts, the first one within most of them."""
    return (">",) * (len(letters) - 1) + tuple(letters)


def rights(letters):
    """Return the words of a kind that has its letters as lefts, one behind another, but for the last one."""
    return tuple(word for letter in letters[:-1] for word in (">", letter)) + (letters[-1],)


def letters_by_turns(letters):
    """Return the words of a kind in which a left lies in a right, and this again in a left, to the end."""
    words = (letters[0],)
    for at, letter in enumerate(letters[1:]):
        words = (">",) + words + (letter,) if at % 2 else (">", letter) + words
    return words


KIND_SHAPES = (lefts, rights, letters_by_turns)
