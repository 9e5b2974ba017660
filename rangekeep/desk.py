"""The desk of a console: its world and its receiver, and the commands that change these."""

from rangekeep.clocks import Clock
from rangekeep.codes import family, maximal_code
from rangekeep.errors import InvalidCode, InvalidScript
from rangekeep.margin import Settings
from rangekeep.orbits import FARTHEST, Orbit
from rangekeep.receiver import MOST_DRIFT, all_codes
from rangekeep.records import is_record
from rangekeep.worlds import Beacon, bits_of, count_at

MOST_SAMPLES = 20000
MOST_OFFSETS = 10000
GREATEST_TAP = 8
STILL = (0, 0, 0)
UNKNOWN = (None, None)


class Desk:
    """What a console was told."""

    def __init__(self):
        # The number of the line whose command is done now.
        self.line = 0
        self.bands = []
        # A beacon or None, and a pair of the almanac, for each sender.
        self.beacons = []
        self.almanac = []
        self.radius = 0
        self.mask = (0, 1)
        self.size = 0
        self.seed = 0
        self.point = (1, 0, 0)
        self.offset = 0
        self.box = ((0, 0), (0, 0), (0, 0))
        self.least = 0
        self.greatest = 0
        self.faults = 0
        self.moments = []
        # What is heard of all senders, or None if it must be worked out anew.
        self.rows = None


def require(desk, is_so):
    """Raise that the command of the line cannot be done, unless something is so."""
    if not is_so:
        raise InvalidScript(desk.line)


def require_place(desk, place):
    """Require that no coordinate of a place is too far away."""
    require(desk, all([abs(at) <= FARTHEST for at in place]))


def change(desk, word, values):
    """Do a command that changes what the desk has."""
    action = CHANGES[word]
    action(desk, *values)
    desk.rows = None


def _begin_band(desk, noise, way):
    require(desk, noise >= 0)
    desk.bands.append(Settings([], [], noise, way == "moving"))


def _add_maximal(desk, taps, least, greatest):
    _require_taps(desk, taps)
    try:
        code = maximal_code(taps)
    except InvalidCode:
        raise InvalidScript(desk.line)
    _add_code(desk, code, least, greatest)


def _add_gold(desk, taps, index, least, greatest):
    _require_taps(desk, taps)
    try:
        codes = family(taps)
    except InvalidCode:
        raise InvalidScript(desk.line)
    require(desk, 0 <= index < len(codes))
    _add_code(desk, codes[index], least, greatest)


def _require_taps(desk, taps):
    require(desk, len(taps) >= 2 and all([a < b for a, b in zip(taps, taps[1:])]))
    require(desk, taps[0] >= 1 and taps[-1] <= GREATEST_TAP)


def _add_code(desk, code, least, greatest):
    """Add a sender with a code to the last band."""
    require(desk, len(desk.bands) > 0)
    band = desk.bands[-1]
    require(desk, 1 <= least <= greatest)
    require(desk, all([len(other) == len(code) and other != code for other in band.codes]))
    desk.bands[-1] = Settings(band.codes + [code], band.amplitudes + [(least, greatest)], band.noise, band.moving)
    desk.beacons.append(None)
    desk.almanac.append(UNKNOWN)


def _tell_planet(desk, radius):
    require(desk, radius >= 0)
    desk.radius = radius


def _tell_mask(desk, up, across):
    require(desk, up >= 0 and across >= 1)
    desk.mask = (up, across)


def _require_sender(desk, number):
    require(desk, 0 <= number < len(desk.beacons))


def _beacon(desk, number):
    """Return the beacon of a sender, which must be there."""
    _require_sender(desk, number)
    beacon = desk.beacons[number]
    require(desk, beacon is not None)
    return beacon


def _place_beacon(desk, number, amplitude, first, shift, place):
    _require_sender(desk, number)
    require(desk, amplitude != 0 and first >= 0)
    require_place(desk, place)
    orbit = Orbit(-FARTHEST, FARTHEST, place, STILL, STILL)
    desk.beacons[number] = Beacon(amplitude, orbit, Clock(0, 0, 0), first, shift, [])


def _change_orbit(desk, number, begin, end, place, speed, pull):
    beacon = _beacon(desk, number)
    require(desk, begin <= end)
    require_place(desk, place)
    beacon.orbit = Orbit(begin, end, place, speed, pull)


def _change_clock(desk, number, begin, offset, drift):
    beacon = _beacon(desk, number)
    require(desk, abs(drift) <= MOST_DRIFT)
    beacon.clock = Clock(begin, offset, drift)


def _send(desk, number, word):
    """Add the record with which a beacon tells its time, its own orbit or its own clock."""
    beacon = _beacon(desk, number)
    orbit, clock = beacon.orbit, beacon.clock
    if word == "orbit":
        _add_record(desk, beacon, ("orbit", orbit.begin, orbit.end, *orbit.place, *orbit.speed, *orbit.pull))
    elif word == "clock":
        _add_record(desk, beacon, ("clock", clock.begin, clock.offset, clock.drift))
    else:
        length = len(all_codes(desk.bands)[number])
        require(desk, count_at(beacon, length, len(bits_of(beacon, length))) >= 0)
        _add_record(desk, beacon, ("time", 0))


def _tell(desk, number, word, facts):
    _add_record(desk, _beacon(desk, number), (word, *facts))


def _add_record(desk, beacon, record):
    require(desk, is_record(record))
    beacon.records.append(record)


def _know(desk, number):
    beacon = _beacon(desk, number)
    desk.almanac[number] = (beacon.orbit, beacon.clock)


def _forget(desk, number):
    _require_sender(desk, number)
    desk.almanac[number] = UNKNOWN


def _make_noise(desk, size, seed):
    require(desk, 0 <= size <= MOST_SAMPLES and seed >= 0)
    desk.size = size
    desk.seed = seed


def _stand_at(desk, place, offset):
    require_place(desk, place)
    desk.point = place
    desk.offset = offset


def _tell_box(desk, *box):
    for low, high in box:
        require_place(desk, (low, high))
        require(desk, low <= high)
    desk.box = box


def _tell_offsets(desk, least, greatest):
    require(desk, 0 <= greatest - least <= MOST_OFFSETS)
    desk.least = least
    desk.greatest = greatest


def _tell_faults(desk, faults):
    require(desk, faults >= 0)
    desk.faults = faults


# The function of each command that changes something.
CHANGES = {
    "band": _begin_band,
    "code": _add_maximal,
    "gold": _add_gold,
    "planet": _tell_planet,
    "mask": _tell_mask,
    "beacon": _place_beacon,
    "orbit": _change_orbit,
    "clock": _change_clock,
    "send": _send,
    "tell": _tell,
    "know": _know,
    "forget": _forget,
    "noise": _make_noise,
    "at": _stand_at,
    "box": _tell_box,
    "offsets": _tell_offsets,
    "faults": _tell_faults,
}
