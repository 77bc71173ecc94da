"""The refusals of the program, one class each."""


class HadError(ValueError):
    """Any refusal."""


class NoProgram(HadError):
    """A text is no expression, no row or no program."""


class NoChange(HadError):
    """A thing is no change, or it can't be put."""


class NoPlace(HadError):
    """A thing is no place that a start may give."""


class NoValue(HadError):
    """A thing is no value."""


class NoMoment(HadError):
    """A run has no such moment."""


class NoPart(HadError):
    """A moment is none that has a part."""


class NoKey(HadError):
    """No change with this key stands."""


class NoWish(HadError):
    """A thing is no wish."""


class NoText(HadError):
    """A text is neither a book nor a change."""


class BadBook(HadError):
    """A book fails at the entry of this number."""

    def __init__(self, number):
        self.number = number
