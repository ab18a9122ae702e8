"""The errors that the program raises (point 100)."""


class KindsError(ValueError):
    """What all errors of the program have in common."""


class BadText(KindsError):
    """A text that cannot be read; line is the number of its first bad line, or 0."""

    def __init__(self, line):
        self.line = line


class BadTable(KindsError):
    """A value that is no table."""


class BadProgram(KindsError):
    """A value that is no well made program over its table."""


class BadJob(KindsError):
    """A job with a question that cannot be answered."""
