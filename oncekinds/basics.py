"""What numbers and names are, the row in which new names are told, and words that stand ahead of their parts."""

LETTERS = "abcdefghijklmnopqrstuvwxyz"
MOST_LETTERS = 8
DIGITS = "0123456789"
MOST_DIGITS = 40


def is_number(thing):
    """Tell whether a thing is an integer from 0 on; True and False are none."""
    return isinstance(thing, int) and not isinstance(thing, bool) and thing >= 0


def is_name(thing):
    """Tell whether a thing is a string of 1 to 8 letters a to z."""
    if not isinstance(thing, str) or not 1 <= len(thing) <= MOST_LETTERS:
        return False
    return all([sign in LETTERS for sign in thing])


def lettered(number):
    """Return what has this number in the row a, b, .., z, aa, ab, .., zz, aaa, .."""
    text = ""
    rest = number + 1
    while rest > 0:
        # No letter is a nought, so each turn counts from 1.
        rest, last = divmod(rest - 1, len(LETTERS))
        text = LETTERS[last] + text
    return text


def misfit_index(needs):
    """Return the first index behind a whole, or how many words there are if more are needed.

    The needs tell of each word how many parts it has; they stand behind it.
    """
    lacking = 1
    for at, need in enumerate(needs):
        if lacking == 0:
            return at
        lacking += need - 1
    return None if lacking == 0 else len(needs)


def ends_by(needs):
    """Return the tuple with the index behind the part at each place; at most two parts belong to a word."""
    behind = [0] * len(needs)
    # From the last word on, the ends of the parts within are there already.
    for at in reversed(range(len(needs))):
        behind[at] = at + 1
        for _ in range(needs[at]):
            behind[at] = behind[behind[at]]
    return tuple(behind)


def number_told(signs):
    """Return the number that is told by digits without a needless 0, or None."""
    if signs == "" or not all([sign in DIGITS for sign in signs]):
        return None
    if signs.startswith("0") and signs != "0":
        return None
    # Python reads no row of thousands of digits; the first ones alone are more than anything here counts.
    return int(signs[:MOST_DIGITS + 1])
