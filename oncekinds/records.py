"""The lines of a journal, each with its check."""

from oncekinds.texts import text

DIVISOR = 9973
MARK = " #"


def sealed(line):
    """Return a line with its check and a line feed."""
    return line + MARK + str(check_of(line)) + "\n"


def check_of(line):
    """Return the check of a line."""
    return sum([ord(sign) * place for place, sign in enumerate(line, 1)]) % DIVISOR


def unsealed(row):
    """Return the line of which a row is made by its check, the line feed being left out, or None."""
    line, mark, check = row.rpartition(MARK)
    return line if mark == MARK and check == str(check_of(line)) else None


def change_record(name, program):
    """Return the record of a put, or of a drop if the program is None."""
    return sealed("drop " + name if program is None else "put " + name + " " + text(program))


def deal_record(changes):
    """Return the record of a commit with puts and drops, told by pairs of a name and a program or None."""
    lines = [change_record(name, program) for name, program in changes]
    return sealed("deal " + str(len(changes))) + "".join(lines)
