"""The errors of the package, all of them under LockError."""


class LockError(ValueError):
    """Something that is no lock, turn, task, row or text as it must be."""


class BadLock(LockError):
    """No lock: place is the first bad given turn's, or None for no tuple of 1 to 4."""

    def __init__(self, place):
        self.place = place


class BadRow(LockError):
    """No row: place is the first bad step's, or None for no tuple of so many."""

    def __init__(self, place):
        self.place = place


class BadSign(LockError):
    """No formula: place is that of the first sign that cannot stand, from 0."""

    def __init__(self, place):
        self.place = place


class BadLine(LockError):
    """No such text: line and place, both from 1, of the first word that cannot stand."""

    def __init__(self, line, place):
        self.line = line
        self.place = place


class TooMany(LockError):
    """More than the most that is let."""

    def __init__(self, most):
        self.most = most


class BadTurn(LockError):
    """No turn of the lock."""


class BadTask(LockError):
    """No table of a task."""


class BadNumber(LockError):
    """No number that is let here."""


class NoWay(LockError):
    """A lock by which this cannot be written."""


class NotPrime(LockError):
    """A lock whose number of turns is no power of a prime."""


class BadString(LockError):
    """No text."""
