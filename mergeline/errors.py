"""The refusals.

An error's own words hold no number: a number may be too long to be written out.
"""


class MergeError(ValueError):
    """Any refusal."""


class BadPlant(MergeError):
    """A plant's text that is refused: the number of the row at fault, and why."""

    def __init__(self, place, word):
        MergeError.__init__(self, f"bad plant: {word}")
        self.place = place
        self.word = word


class BadDay(MergeError):
    """A day that is refused: the number of the good or row at fault, and why."""

    def __init__(self, place, word):
        MergeError.__init__(self, f"bad day: {word}")
        self.place = place
        self.word = word


class BadBook(MergeError):
    """A book that is refused: the number of the row or entry at fault, and why."""

    def __init__(self, place, word):
        MergeError.__init__(self, f"bad book: {word}")
        self.place = place
        self.word = word


class NoBound(MergeError):
    """A gate for which no bound of waiting is told, and why."""

    def __init__(self, word):
        MergeError.__init__(self, f"no bound: {word}")
        self.word = word
