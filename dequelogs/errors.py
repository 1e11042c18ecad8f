"""The errors of the package."""


class DequeError(ValueError):
    """The base class of all errors of the package."""


class NoLogs(DequeError):
    """An object that should be logs is none."""


class NoFacts(DequeError):
    """An object that should be facts is none."""


class NoRun(DequeError):
    """An object that should be a run is none."""


class NoWorker(DequeError):
    """An object that should be a worker, or workers, is none."""


class NoItem(DequeError):
    """A string that should be an item is none."""


class NoPlace(DequeError):
    """An object that should be the place of an entry is none."""


class NoNumber(DequeError):
    """A number is out of its range."""


class NoEntry(DequeError):
    """An entry or a fact cannot be added."""


class Nothing(DequeError):
    """There is nothing to undo."""


class Conflict(DequeError):
    """Logs are not consistent; the field reason holds a certificate."""

    def __init__(self, reason):
        self.reason = reason


class TooMany(DequeError):
    """There is too much to count; the field many tells how much."""

    def __init__(self, many):
        self.many = many


class NoText(DequeError):
    """A string is no text; the field at tells where."""

    def __init__(self, at):
        self.at = at
