"""The desk of a console: its world and its receiver, and the commands that change these."""

from rangekeep.clocks import Clock
from rangekeep.codes import family, maximal_code
from rangekeep.errors import InvalidCode, InvalidOrbit, InvalidScript
from rangekeep.margin import Settings
from rangekeep.orbits import FARTHEST, Orbit
from rangekeep.receiver import MOST_DRIFT, all_codes, heard
from rangekeep.records import is_record
from rangekeep.worlds import Beacon, Sky, bits_of, count_at, received

MOST_SAMPLES = 20000
MOST_OFFSETS = 10000
GREATEST_TAP = 8
ORIGIN = (0, 0, 0)
STILL = (0, 0, 0)
UNKNOWN = (None, None)


class Desk:
    """What a console was told. A command that cannot be done raises the number of its line."""

    def __init__(self):
        self._line = 0
        self.bands = []
        # A beacon or None, and a pair of the almanac, for each sender.
        self._beacons = []
        self.almanac = []
        self._radius = 0
        self._mask = (0, 1)
        self._size = 0
        self._seed = 0
        self._point = (1, 0, 0)
        self._offset = 0
        self.box = ((0, 0), (0, 0), (0, 0))
        self.least = 0
        self.greatest = 0
        self.faults = 0
        # The moments of all stops.
        self.moments = []
        # What is heard of all senders, or None if it must be worked out anew.
        self._rows = None

    def go_to(self, line):
        """Go on to the command of a line."""
        self._line = line

    def require(self, is_so):
        """Raise that the command of the line cannot be done, unless something is so."""
        if not is_so:
            raise InvalidScript(self._line)

    def change(self, word, values):
        """Do a command that changes the world or the receiver."""
        actions = {
            "band": self._band, "code": self._code, "gold": self._gold, "planet": self._planet, "mask": self._hide,
            "beacon": self._beacon, "orbit": self._orbit, "clock": self._clock, "send": self._send,
            "tell": self._tell, "know": self._know, "forget": self._forget, "noise": self._noise, "at": self._at,
            "box": self._box, "offsets": self._offsets, "faults": self._faults,
        }
        action = actions[word]
        action(*values)
        self._rows = None

    def rows(self):
        """Return what is heard of all senders."""
        if self._rows is None:
            self.require(self._point != ORIGIN)
            sky = Sky(self.bands, self._radius, self._mask, self._beacons)
            noises = [self._noise_of(settings.noise) for settings in self.bands]
            try:
                self._rows = heard(self.bands, received(sky, self._point, self._offset, noises))
            except InvalidOrbit:
                raise InvalidScript(self._line)
        return self._rows

    def _noise_of(self, most):
        """Return the noise in a band, whose absolute values are not greater than the most."""
        return [(self._seed * k + k * k) % (2 * most + 1) - most for k in range(self._size)]

    def stop(self, time, problem):
        """Add a moment."""
        self.moments.append((time, problem))

    def _require_place(self, place):
        """Require that no coordinate of a place is too far away."""
        self.require(all([abs(at) <= FARTHEST for at in place]))

    def _band(self, noise, way):
        self.require(noise >= 0)
        self.bands.append(Settings([], [], noise, way == "moving"))

    def _code(self, taps, least, greatest):
        self._require_taps(taps)
        try:
            code = maximal_code(taps)
        except InvalidCode:
            raise InvalidScript(self._line)
        self._add_code(code, least, greatest)

    def _gold(self, taps, index, least, greatest):
        self._require_taps(taps)
        try:
            codes = family(taps)
        except InvalidCode:
            raise InvalidScript(self._line)
        self.require(0 <= index < len(codes))
        self._add_code(codes[index], least, greatest)

    def _require_taps(self, taps):
        self.require(len(taps) >= 2 and all([a < b for a, b in zip(taps, taps[1:])]))
        self.require(taps[0] >= 1 and taps[-1] <= GREATEST_TAP)

    def _add_code(self, code, least, greatest):
        """Add a sender with a code to the last band."""
        self.require(len(self.bands) > 0)
        band = self.bands[-1]
        self.require(1 <= least <= greatest)
        self.require(all([len(other) == len(code) and other != code for other in band.codes]))
        amplitudes = band.amplitudes + [(least, greatest)]
        self.bands[-1] = Settings(band.codes + [code], amplitudes, band.noise, band.moving)
        self._beacons.append(None)
        self.almanac.append(UNKNOWN)

    def _planet(self, radius):
        self.require(radius >= 0)
        self._radius = radius

    def _hide(self, up, across):
        self.require(up >= 0 and across >= 1)
        self._mask = (up, across)

    def _require_sender(self, number):
        self.require(0 <= number < len(self._beacons))

    def _beacon_of(self, number):
        """Return the beacon of a sender, which must be there."""
        self._require_sender(number)
        beacon = self._beacons[number]
        self.require(beacon is not None)
        return beacon

    def _beacon(self, number, amplitude, first, shift, place):
        self._require_sender(number)
        self.require(amplitude != 0 and first >= 0)
        self._require_place(place)
        orbit = Orbit(-FARTHEST, FARTHEST, place, STILL, STILL)
        self._beacons[number] = Beacon(amplitude, orbit, Clock(0, 0, 0), first, shift, [])

    def _orbit(self, number, begin, end, place, speed, pull):
        beacon = self._beacon_of(number)
        self.require(begin <= end)
        self._require_place(place)
        beacon.orbit = Orbit(begin, end, place, speed, pull)

    def _clock(self, number, begin, offset, drift):
        beacon = self._beacon_of(number)
        self.require(abs(drift) <= MOST_DRIFT)
        beacon.clock = Clock(begin, offset, drift)

    def _send(self, number, word):
        """Add the record with which a beacon tells its time, its own orbit or its own clock."""
        beacon = self._beacon_of(number)
        orbit, clock = beacon.orbit, beacon.clock
        if word == "orbit":
            self._add_record(number, ("orbit", orbit.begin, orbit.end, *orbit.place, *orbit.speed, *orbit.pull))
        elif word == "clock":
            self._add_record(number, ("clock", clock.begin, clock.offset, clock.drift))
        else:
            length = len(all_codes(self.bands)[number])
            self.require(count_at(beacon, length, len(bits_of(beacon, length))) >= 0)
            self._add_record(number, ("time", 0))

    def _tell(self, number, word, facts):
        self._add_record(number, (word, *facts))

    def _add_record(self, number, record):
        beacon = self._beacon_of(number)
        self.require(is_record(record))
        beacon.records.append(record)

    def _know(self, number):
        beacon = self._beacon_of(number)
        self.almanac[number] = (beacon.orbit, beacon.clock)

    def _forget(self, number):
        self._require_sender(number)
        self.almanac[number] = UNKNOWN

    def _noise(self, size, seed):
        self.require(0 <= size <= MOST_SAMPLES and seed >= 0)
        self._size = size
        self._seed = seed

    def _at(self, place, offset):
        self._require_place(place)
        self._point = place
        self._offset = offset

    def _box(self, *box):
        for low, high in box:
            self._require_place((low, high))
            self.require(low <= high)
        self.box = box

    def _offsets(self, least, greatest):
        self.require(0 <= greatest - least <= MOST_OFFSETS)
        self.least = least
        self.greatest = greatest

    def _faults(self, faults):
        self.require(faults >= 0)
        self.faults = faults
