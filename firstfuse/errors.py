"""The errors of the package."""


class FuseError(ValueError):
    """The base of the errors that are no failed look-ups."""


class BadBoard(FuseError):
    """A value is no board; error is what board_error says of it."""

    def __init__(self, error):
        self.error = error


class BadText(FuseError):
    """A value is no text of a board or a story; line is where it fails."""

    def __init__(self, line):
        self.line = line


class TooGreat(FuseError):
    """A board is not small."""


class Unlike(FuseError):
    """Two boards do not have as many lamps."""


class Full(FuseError):
    """A panel takes no more edits or deeds."""


class NotStrained(FuseError):
    """A fuse that is not strained cannot blow."""

    def __init__(self, fuse):
        self.fuse = fuse


class TooEarly(FuseError):
    """A pause is not over, as these fuses are strained."""

    def __init__(self, fuses):
        self.fuses = fuses


class NothingToUndo(FuseError):
    """No edit stands."""


class NothingToRedo(FuseError):
    """No edit was taken back."""


class NoLamp(LookupError):
    """A value is no index of a lamp."""

    def __init__(self, lamp):
        self.lamp = lamp


class NoFuse(LookupError):
    """A value is no index of a fuse."""

    def __init__(self, fuse):
        self.fuse = fuse
