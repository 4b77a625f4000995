"""The errors that the package raises."""


class CueError(ValueError):
    """What all errors of the package have in common."""


class NoCurve(CueError):
    """An argument should be a curve and is none."""


class NoTiming(CueError):
    """An argument should be a timing and is none."""


class NoNumber(CueError):
    """An argument should be a fraction and is none."""


class NoSign(CueError):
    """An argument should be 1 or -1 and is neither."""


class NoFlag(CueError):
    """An argument should be True or False and is neither."""


class NoRow(CueError):
    """An argument has none of the forms of a row."""


class NoName(CueError):
    """An argument is no name, or nothing has this name."""


class Refused(CueError):
    """A row has a right form but does not fit the stage; kind tells why."""

    def __init__(self, kind):
        super().__init__(kind)
        self.kind = kind
