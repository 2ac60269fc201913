"""All refusals, each straight under LineError."""


class LineError(ValueError):
    """Any refusal, made of a text."""


class NoHall(LineError):
    """A thing is no HALL: word tells what is amiss, number which server."""

    def __init__(self, word, number):
        self.word = word
        self.number = number


class NoText(LineError):
    """A text or lines write no such thing: place is the first row or word amiss."""

    def __init__(self, place):
        self.place = place


class TooMany(LineError):
    """There are more of what word tells than are reckoned with."""

    def __init__(self, word):
        self.word = word


class NoShares(LineError):
    """A thing is no share paper that is let by."""

    def __init__(self, word, number):
        self.word = word
        self.number = number


class NoBest(LineError):
    """A thing is no best paper that is let by."""

    def __init__(self, word, number):
        self.word = word
        self.number = number


class NoNever(LineError):
    """A thing is no never paper that is let by."""

    def __init__(self, word, number):
        self.word = word
        self.number = number


class NoFraction(LineError):
    """Something would be divided by 0."""


class NoAlike(LineError):
    """A hall's servers are not alike, or its askers are moved."""


class NoBack(LineError):
    """There is no move to take back."""


class NoRow(LineError):
    """A desk has no such row."""
