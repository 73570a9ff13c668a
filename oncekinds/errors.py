"""All errors that the package raises."""


class KindError(ValueError):
    """What all errors of the package have in common."""

    def __init__(self):
        # Errors are made with just their fields, and most have none.
        pass


class BadProgram(KindError):
    """These words are no program; the fault is at the index."""

    def __init__(self, index):
        self.index = index


class NoPlace(KindError):
    """This is not the index of a word."""


class NoNames(KindError):
    """This doesn't tell all names anew."""


class SharedNames(KindError):
    """Both programs have an open name in common."""


class NoName(KindError):
    """This is no name that may stand here."""


class NoStep(KindError):
    """There is no step at this place."""


class NothingDone(KindError):
    """There is nothing to take back or to do again."""


class BadKind(KindError):
    """These words are no kind; the fault is at the index."""

    def __init__(self, index):
        self.index = index


class NoKind(KindError):
    """This is no Kind."""


class NoFillings(KindError):
    """This is no dict from letters to Kinds."""


class NotClosed(KindError):
    """The program has open names."""


class NoNumber(KindError):
    """This is no number that may stand here."""


class TooMany(KindError):
    """There would be more than the most that is let."""

    def __init__(self, most):
        self.most = most


class NoValues(KindError):
    """This is no tuple of values for the takes."""


class BadText(KindError):
    """No text goes on so; the fault is at the index."""

    def __init__(self, index):
        self.index = index


class NoLine(KindError):
    """This is no line that a desk knows."""


class Unknown(KindError):
    """Nothing is kept under this name."""

    def __init__(self, name):
        self.name = name


class NoProgram(KindError):
    """This is no Program that may stand here."""


class Ended(KindError):
    """The deal has been committed or left."""


class NoText(KindError):
    """This is no string."""
