"""The errors of the program. Each one tells a place, an integer."""


class RangekeepError(ValueError):
    """The base class of all errors of the program."""

    def __init__(self, place):
        self.place = place


class InvalidCode(RangekeepError):
    """Taps from which no code can be made."""


class InvalidBits(RangekeepError):
    """Bits that cannot be read as words."""


class InvalidFrame(RangekeepError):
    """A content that cannot be unstuffed, or cells that are no record."""


class InvalidOrbit(RangekeepError):
    """A time or a position that an orbit does not have."""


class TooMany(RangekeepError):
    """More than the program goes through."""


class InvalidScript(RangekeepError):
    """A script that cannot be read."""
