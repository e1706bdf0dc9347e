"""The errors of the package: one class for each kind of failure."""


class TeeError(ValueError):
    """Any failure that the package reports."""


class InvalidReaders(TeeError):
    """The number of readers is not an integer in the range that is wanted."""


class InvalidHistory(TeeError):
    """The value is not a history of these readers."""


class InvalidRanks(TeeError):
    """The value is not a list of ranks that belongs to some wanted history."""


class InvalidState(TeeError):
    """The value is not a state, or not one of so many readers."""


class InvalidRecord(TeeError):
    """The value is not a record."""


class InvalidChanges(TeeError):
    """The value is not a list of changes."""


class InvalidNumber(TeeError):
    """The value is not an integer in the range that is wanted."""


class InvalidRank(TeeError):
    """The value is not a rank of one of the readers."""


class InvalidName(TeeError):
    """The value is not the name of a reader."""


class InvalidNames(TeeError):
    """The values are not different names of readers."""


class NothingToUndo(TeeError):
    """There is no read that could be reverted."""


class InvalidCommand(TeeError):
    """The value is not a line that the console knows."""


class TooLong(TeeError):
    """A length, a count or a sum is greater than its limit."""

    def __init__(self, length):
        self.length = length


class Impossible(TeeError):
    """The record is not possible, as the obstruction shows."""

    def __init__(self, obstruction):
        self.obstruction = obstruction


class BufferFull(TeeError):
    """The buffer already has the most items that it may have."""

    def __init__(self, most):
        self.most = most


class InvalidText(TeeError):
    """The text has no meaning from the word with this index on."""

    def __init__(self, index):
        self.index = index
