"""The errors of the package: all stand directly under HeldError.

The ones that are made with arguments keep them as they were passed.
"""


class HeldError(ValueError):
    """What all errors of the package stand under."""


class BadText(HeldError):
    """A text tells nothing of what it is read as."""


class Unfit(HeldError):
    """An argument does not fit what it is asked of."""


class BadProgram(HeldError):
    """What should be a program is none: error tells why."""

    def __init__(self, error):
        self.error = error


class NoFunction(HeldError):
    """There is no function with this name."""

    def __init__(self, name):
        self.name = name


class Untold(HeldError):
    """No saying tells of what comes to this way of the function."""

    def __init__(self, name, way):
        self.name = name
        self.way = way


class Open(HeldError):
    """The loop with this way of the function has no keep."""

    def __init__(self, name, way):
        self.name = name
        self.way = way


class TooMany(HeldError):
    """There are more than limit of what is made."""

    def __init__(self, limit):
        self.limit = limit


class TooManyEdits(HeldError):
    """No more edits can stand on the desk."""


class NothingToUndo(HeldError):
    """No edit stands that could be taken back."""


class NothingToRedo(HeldError):
    """No edit was taken back that could be done again."""


class NoVersion(HeldError):
    """The desk has no such version as the given one."""

    def __init__(self, given):
        self.given = given


class BadLog(HeldError):
    """A log is none, or its item at this place is no edit or is refused."""

    def __init__(self, place):
        self.place = place
