"""A program that does steps and takes them back."""

from oncekinds.errors import NoStep, NothingDone
from oncekinds.programs import built
from oncekinds.stepping import is_step, step_done, step_undone


class Run:
    """What a program has come to by steps, with all that is needed to go back."""

    def __init__(self, program):
        self.words = program.words
        self.marks = []

    def program(self):
        """Return the Program that it has come to."""
        return built(self.words)

    def many(self):
        """Return how many steps were done and are not taken back."""
        return len(self.marks)

    def step(self, place):
        """Do the step at a place."""
        if not is_step(self.words, place):
            raise NoStep()
        self.words, mark = step_done(self.words, place)
        self.marks.append(mark)

    def back(self):
        """Take the last step back."""
        if not self.marks:
            raise NothingDone()
        self.words = step_undone(self.words, self.marks.pop())

    def to_rest(self):
        """Do steps, always at the least place, up to the rest; return the tuple of the places."""
        places = []
        place = 0
        while place < len(self.words):
            if is_step(self.words, place):
                places.append(place)
                self.step(place)
                # A take may stand behind the word ahead now; further ahead nothing is another one.
                place = max(0, place - 1)
            else:
                place += 1
        return tuple(places)

    def copy(self):
        """Return a Run that goes on apart, and can go back as far."""
        other = Run(built(self.words))
        other.marks = list(self.marks)
        return other
