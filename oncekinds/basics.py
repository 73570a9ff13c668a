"""What numbers and names are, and the row in which new names are told."""

LETTERS = "abcdefghijklmnopqrstuvwxyz"
MOST_LETTERS = 8


def is_number(thing):
    """Tell whether a thing is an integer from 0 on; True and False are none."""
    return isinstance(thing, int) and not isinstance(thing, bool) and thing >= 0


def is_name(thing):
    """Tell whether a thing is a string of 1 to 8 letters a to z."""
    if not isinstance(thing, str) or not 1 <= len(thing) <= MOST_LETTERS:
        return False
    return all([sign in LETTERS for sign in thing])


def lettered(number):
    """Return what has this number in the row a, b, .., z, aa, ab, .., zz, aaa, .."""
    text = ""
    rest = number + 1
    while rest > 0:
        # No letter is a nought, so each turn counts from 1.
        rest, last = divmod(rest - 1, len(LETTERS))
        text = LETTERS[last] + text
    return text
