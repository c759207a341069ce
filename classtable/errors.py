"""The errors of the package, one class for each kind of failure."""


class Fault(ValueError):
    """The base class of all errors that the package raises."""


class ZeroDivisor(Fault):
    """A division by zero, or by a number without an inverse."""


class Malformed(Fault):
    """A value that does not have the form that it must have."""


class Refused(Fault):
    """A value of the right form that the package does not take; `reason` is a string of small letters."""

    def __init__(self, reason):
        self.reason = reason


class NoText(Fault):
    """A text that tells nothing; `at` is the place at which this shows."""

    def __init__(self, at):
        self.at = at
