"""The errors of the package."""


class LastCopyError(ValueError):
    """The base of all errors."""


class InvalidAction(LastCopyError):
    """An item is not an action, or it is not possible at its turn."""

    def __init__(self, position):
        self.position = position


class UnknownWriter(LastCopyError):
    """A page has no such writer."""

    def __init__(self, writer):
        self.writer = writer


class TooManyResults(LastCopyError):
    """A result would be too large."""

    def __init__(self, total):
        self.total = total


class InvalidFormat(LastCopyError):
    """A text is not the string of any value."""

    def __init__(self, position):
        self.position = position


class InvalidLineCounts(LastCopyError):
    """A value is not line counts."""


class InvalidLine(LastCopyError):
    """A value is not a line, or not one of these line counts."""


class InvalidContent(LastCopyError):
    """A value is not a content, or not one of these line counts."""


class InvalidLineSet(LastCopyError):
    """A value is not a line set of these line counts."""


class InvalidAtomicSet(LastCopyError):
    """A value is not an atomic set of these line counts."""


class InvalidState(LastCopyError):
    """A value is not a state for these line counts."""


class InvalidSaveOrder(LastCopyError):
    """A value is not a save order, or not a save log."""


class InvalidObservations(LastCopyError):
    """A value is not observations, or they are not consistent."""


class InvalidInteger(LastCopyError):
    """A value is not an integer, or it is out of range."""


class InvalidNumbers(LastCopyError):
    """A value is not a dict of numbers as it is asked for."""


class EmptyHistory(LastCopyError):
    """There is nothing to undo or to redo."""


class UnknownName(LastCopyError):
    """There is no page of this name."""


class DuplicateName(LastCopyError):
    """There is a page of this name already."""


class InvalidCommand(LastCopyError):
    """A value is not a command."""
