"""Ranges: when the periods of a sender begin at a receiver, and what it concludes from their starts."""

from rangekeep.boxes import distance
from rangekeep.clocks import time_of
from rangekeep.errors import InvalidOrbit
from rangekeep.offsets import Observation
from rangekeep.orbits import position

STILL = (0, 0, 0)


def sent_at(clock, length, m):
    """Return the time at which the period with a number is sent."""
    return time_of(clock, m * length)


def start_of(orbit, clock, length, m, point, offset):
    """Return the sample with which the period with a number begins at a receiver."""
    t = sent_at(clock, length, m)
    return t + distance(position(orbit, t), point) + offset


def steps_of(orbit, clock, length, m, count, point, offset):
    """Return the steps of so many periods from a number on."""
    told = []
    start = start_of(orbit, clock, length, m, point, offset)
    for number in range(m, m + count):
        end = start_of(orbit, clock, length, number + 1, point, offset)
        step = end - start - length
        if abs(step) > 1:
            raise InvalidOrbit(number)
        told.append(step)
        start = end
    return told


def observed(sender, orbit, clock, length, track, place, count, n):
    """Return the observation of a track at a sample, with a time record; or None if no period has begun."""
    k = _last_begun(track, n)
    if k < 0:
        return None
    start, _ = track[k]
    t = time_of(clock, count + (k - place) * length)
    return Observation(sender, position(orbit, t), start - t, 0, None)


def observed_unread(sender, orbit, clock, length, track, n):
    """Return the observation of a track at a sample, without a time record; or None if there is none."""
    k = _last_begun(track, n)
    if k < 0 or orbit.speed != STILL or orbit.pull != STILL or clock.drift != 0:
        return None
    start, _ = track[k]
    return Observation(sender, orbit.place, start + clock.offset, 0, length)


def _last_begun(track, n):
    """Return the index of the last period that begins at a sample or before, or -1 if there is none."""
    return len([start for start, _ in track if start <= n]) - 1
