"""Worlds: beacons, and what is received of them at a point."""

from rangekeep.errors import InvalidOrbit
from rangekeep.framing import FLAG, stream_of
from rangekeep.orbits import is_above, is_seen, position
from rangekeep.ranges import sent_at, start_of, steps_of
from rangekeep.receiver import all_codes, clock_of, orbit_of, problem_at
from rangekeep.records import NUMBERS, contents_of
from rangekeep.samples import Stream, samples


class Beacon:
    """A sender of a world."""

    def __init__(self, amplitude, orbit, clock, first, shift, records):
        self.amplitude = amplitude
        self.orbit = orbit
        self.clock = clock
        self.first = first
        self.shift = shift
        self.records = list(records)

    def __eq__(self, other):
        return (isinstance(other, Beacon) and self.amplitude == other.amplitude and self.orbit == other.orbit
                and self.clock == other.clock and self.first == other.first and self.shift == other.shift
                and self.records == other.records)


def bits_of(beacon, length):
    """Return the bits of a beacon whose code has this length."""
    bits = stream_of([])
    number = 0
    for record in beacon.records:
        is_time = record[0] == "time"
        sent = ("time", count_at(beacon, length, len(bits))) if is_time else record
        contents = contents_of([sent], number)
        bits.extend(stream_of(contents)[len(FLAG):])
        number = (number + len(contents)) % NUMBERS
    return bits


def count_at(beacon, length, many):
    """Return the count that a time record is sent with behind so many bits, whose last ones are a flag."""
    return (beacon.first + many - len(FLAG)) * length + beacon.shift


def is_honest(beacon):
    """Tell whether a beacon tells its own orbit, its own clock and its own time in all of its records."""
    return beacon.shift == 0 and all([_is_own(beacon, record) for record in beacon.records])


def _is_own(beacon, record):
    """Tell whether a record of a beacon tells its own orbit or clock, if it is one that should tell these."""
    if record[0] == "orbit":
        return orbit_of(record) == beacon.orbit
    return record[0] != "clock" or clock_of(record) == beacon.clock


class Sky:
    """Bands, the planet, a mask, and a beacon or None for each code of all bands."""

    def __init__(self, bands, radius, mask, beacons):
        self.bands = list(bands)
        self.radius = radius
        self.mask = mask
        self.beacons = list(beacons)


def code_of(sky, number):
    """Return the code with a number."""
    return all_codes(sky.bands)[number]


def is_heard(sky, number, point):
    """Tell whether there is a beacon with a number that is heard at a point."""
    beacon = sky.beacons[number]
    if beacon is None:
        return False
    there = position(beacon.orbit, sent_at(beacon.clock, len(code_of(sky, number)), beacon.first))
    return is_seen(sky.radius, point, there) and is_above(sky.mask, point, there)


def stream_of_beacon(sky, number, point, offset):
    """Return the stream of a beacon at a point with an offset."""
    beacon, code = sky.beacons[number], code_of(sky, number)
    orbit, clock, length = beacon.orbit, beacon.clock, len(code)
    start = start_of(orbit, clock, length, beacon.first, point, offset)
    if start < 0:
        raise InvalidOrbit(beacon.first)
    bits = bits_of(beacon, length)
    steps = steps_of(orbit, clock, length, beacon.first, len(bits), point, offset)
    return Stream(code, beacon.amplitude, start, steps, bits)


def _streams(sky, point, offset):
    """Return for each band a list with the stream or None of each of its codes; None for what is not heard."""
    told = []
    number = 0
    for settings in sky.bands:
        row = []
        for _ in settings.codes:
            row.append(stream_of_beacon(sky, number, point, offset) if is_heard(sky, number, point) else None)
            number += 1
        told.append(row)
    return told


def received(sky, point, offset, noises):
    """Return the samples of all bands at a point with an offset."""
    return [samples([stream for stream in row if stream is not None], noise)
            for row, noise in zip(_streams(sky, point, offset), noises)]


def is_within(sky, point, offset, noises):
    """Tell whether what is received is within the bands."""
    rows = list(zip(sky.bands, _streams(sky, point, offset), noises))
    return all([_is_allowed(settings, row, noise) for settings, row, noise in rows])


def _is_allowed(settings, row, noise):
    """Tell whether the settings of a band allow the streams of its codes, and the noise."""
    for (least, greatest), stream in zip(settings.amplitudes, row):
        if stream is not None:
            if not least <= abs(stream.amplitude) <= greatest:
                return False
            if not settings.moving and stream.steps != [0] * len(stream.steps):
                return False
    return all([abs(at) <= settings.noise for at in noise])


def journey(sky, almanac, stops, box, least, greatest, faults):
    """Return the problems of all stops."""
    return [problem_at(sky.bands, almanac, received(sky, point, offset, noises), n, box, least, greatest, faults)
            for point, offset, noises, n in stops]
