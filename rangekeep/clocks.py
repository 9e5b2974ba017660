"""Clocks with an offset and a drift."""

from rangekeep.units import PARTS, in_units


class Clock:
    """A clock that drifts from a begin on, and also before it."""

    def __init__(self, begin, offset, drift):
        self.begin = begin
        self.offset = offset
        self.drift = drift

    def __eq__(self, other):
        return (isinstance(other, Clock) and self.begin == other.begin and self.offset == other.offset
                and self.drift == other.drift)


def reading(clock, t):
    """Return what a clock reads at a time."""
    return t + clock.offset + in_units(clock.drift * (t - clock.begin))


def time_of(clock, value):
    """Return the least time at which a clock reads at least a value."""
    # The reading reaches the value d behind the begin just if d * (PARTS + drift) reaches these parts.
    parts = (value - clock.offset - clock.begin) * PARTS
    # The two signs round the quotient up.
    return clock.begin - (-parts // (PARTS + clock.drift))
