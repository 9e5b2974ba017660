"""The receiver: what it hears of senders in samples, and the problem that follows from it."""

from rangekeep.acquiring import acquired
from rangekeep.clocks import Clock
from rangekeep.errors import InvalidOrbit
from rangekeep.fixing import Problem
from rangekeep.framing import FLAG, frames_in, stuff
from rangekeep.orbits import Orbit
from rangekeep.ranges import observed, observed_unread
from rangekeep.records import Collector, read_page

# The greatest absolute value of the drift of a clock.
MOST_DRIFT = 65536


class Heard:
    """What is heard of a sender: its track, its frames, and its records with the places of their first frames."""

    def __init__(self, track, frames, records):
        self.track = list(track)
        self.frames = list(frames)
        self.records = list(records)

    def __eq__(self, other):
        return (isinstance(other, Heard) and self.track == other.track and self.frames == other.frames
                and self.records == other.records)


def heard(bands, samples):
    """Return what is heard of all senders; None for one that cannot be relied on."""
    return [None if tracks is None else _heard_in(tracks)
            for settings, row in zip(bands, samples) for tracks in acquired(settings, row)]


def _heard_in(tracks):
    """Return what is heard of a sender with some tracks."""
    track = tracks[0] if tracks else []
    frames = frames_in([bit for _, bit in track])
    return Heard(track, frames, [(place, record) for place, _, record in _collected(frames)])


def _collected(frames):
    """Return the place of its first page's frame, its last frame, and the record, of all records in frames."""
    told = []
    collector = Collector()
    place = 0
    for frame in frames:
        at, _, content = frame
        if content is not None:
            bits = list(content)
            page = read_page(bits)
            if page is not None and page[1] == 0:
                place = at
            record = collector.take(bits)
            if record is not None:
                told.append((place, frame, record))
    return told


def told_at(one, length, n, known):
    """Return the orbit, the clock, and the place and the count of the time record that are told at a sample."""
    orbit, clock = known
    time = None
    ends = {place: _last_bit(frame) for place, frame, _ in _collected(one.frames)}
    for place, record in one.records:
        start, _ = one.track[ends[place]]
        if start + length - 1 <= n:
            if record[0] == "time":
                _, count = record
                time = (place, count)
            elif record[0] == "orbit":
                orbit = _newer(orbit, orbit_of(record))
            elif record[0] == "clock":
                clock = _newer(clock, clock_of(record))
    return orbit, clock, time


def _last_bit(frame):
    """Return the place of the last bit of the flag behind a frame."""
    place, _, content = frame
    return place + len(FLAG) + len(stuff(content)) + len(FLAG) - 1


def _newer(before, told):
    """Return what is told, or what was told before, if it is nothing."""
    return before if told is None else told


def orbit_of(record):
    """Return the orbit that an orbit record tells, or None if it tells nothing."""
    _, begin, end, *numbers = record
    if end < begin:
        return None
    return Orbit(begin, end, tuple(numbers[:3]), tuple(numbers[3:6]), tuple(numbers[6:]))


def clock_of(record):
    """Return the clock that a clock record tells, or None if it tells nothing."""
    _, begin, offset, drift = record
    return Clock(begin, offset, drift) if abs(drift) <= MOST_DRIFT else None


def all_codes(bands):
    """Return the codes of all senders, in the order of their numbers."""
    return [code for settings in bands for code in settings.codes]


def observations(bands, almanac, samples, n):
    """Return the observations of all senders at a sample, ascending."""
    return observations_of(bands, almanac, heard(bands, samples), n)


def observations_of(bands, almanac, rows, n):
    """Return the observations at a sample of what was heard of all senders."""
    told = []
    for number, (code, one, known) in enumerate(zip(all_codes(bands), rows, almanac)):
        if one is not None:
            found = observation_of(number, len(code), one, told_at(one, len(code), n, known), n)
            if found is not None:
                told.append(found)
    return told


def observation_of(number, length, one, told, n):
    """Return the observation of a sender of which an orbit, a clock and a time record, or None, are told; or None."""
    orbit, clock, time = told
    if orbit is None or clock is None:
        return None
    if time is None:
        return observed_unread(number, orbit, clock, length, one.track, n)
    place, count = time
    try:
        return observed(number, orbit, clock, length, one.track, place, count, n)
    except InvalidOrbit:
        return None


def problem_at(bands, almanac, samples, n, box, least, greatest, faults):
    """Return the problem of a receiver at a sample."""
    return Problem(observations(bands, almanac, samples, n), box, least, greatest, faults)
