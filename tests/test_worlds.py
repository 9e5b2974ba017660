import copy
import random
import unittest

from helpers import random_point
from rangekeep.clocks import Clock
from rangekeep.codes import family, maximal_code
from rangekeep.errors import InvalidOrbit
from rangekeep.faults import verdicts
from rangekeep.fixing import Problem, is_solution
from rangekeep.framing import FLAG, frames_in, stream_of
from rangekeep.margin import Settings, margin
from rangekeep.orbits import Orbit, is_above, is_seen, position
from rangekeep.ranges import sent_at, start_of, steps_of
from rangekeep.receiver import heard, problem_at
from rangekeep.records import Collector, contents_of, read_page
from rangekeep.samples import Stream, samples
from rangekeep.worlds import Beacon, Sky, bits_of, code_of, is_heard, is_honest, is_within, journey, received, \
    stream_of_beacon

CODE, TURNED, LONG = maximal_code((2, 3)), maximal_code((1, 3)), maximal_code((1, 4))
ORBIT = Orbit(0, 9000, (30, 40, 0), (0, 0, 0), (0, 0, 0))
CLOCK = Clock(0, 0, 0)
OWN_ORBIT = ("orbit", 0, 9000, 30, 40, 0, 0, 0, 0, 0, 0, 0)
OWN_CLOCK = ("clock", 0, 0, 0)
FREE = (0, 1)


def beacon(amplitude=10, orbit=ORBIT, clock=CLOCK, first=2, shift=0, records=()):
    return Beacon(amplitude, orbit, clock, first, shift, list(records))


def band(*codes, least=10, greatest=10, noise=1, moving=False):
    return Settings(list(codes), [(least, greatest)] * len(codes), noise, moving)


def sky(*beacons, bands=None, radius=0, mask=FREE):
    """A sky with a band for each beacon, or with these bands."""
    return Sky([band(CODE) for _ in beacons] if bands is None else bands, radius, mask, list(beacons))


def still_at(*place, begin=0, end=9000):
    return Orbit(begin, end, place, (0, 0, 0), (0, 0, 0))


class BeaconTest(unittest.TestCase):
    def test_the_attributes(self):
        records = [("time", 0)]
        one = Beacon(-3, ORBIT, CLOCK, 2, 5, records)
        records.append("x")
        self.assertEqual((one.amplitude, one.orbit, one.clock, one.first, one.shift, one.records),
                         (-3, ORBIT, CLOCK, 2, 5, [("time", 0)]))

    def test_equality(self):
        self.assertTrue(beacon(records=[("time", 0)]) == beacon(records=[("time", 0)]))
        self.assertFalse(beacon() != beacon())
        for other in [beacon(amplitude=9), beacon(orbit=still_at(1, 2, 3)), beacon(clock=Clock(0, 1, 0)),
                      beacon(first=3), beacon(shift=1), beacon(records=[("time", 0)])]:
            self.assertFalse(beacon() == other)
            self.assertTrue(beacon() != other)
        for other in (None, 3, ORBIT, CLOCK, (10, ORBIT, CLOCK, 2, 0, []), "x", object()):
            self.assertFalse(beacon() == other)
            self.assertFalse(other == beacon())


class BitsTest(unittest.TestCase):
    """Point 21.1."""

    def test_no_records(self):
        self.assertEqual(bits_of(beacon(), 7), list(FLAG))

    def test_other_records_are_sent_as_they_are(self):
        records = [OWN_ORBIT, ("key", 1, 2), OWN_CLOCK, ("tag", 3, 4, 5)]
        for first, shift, length in [(0, 0, 7), (5, -9, 31), (10 ** 6, 10 ** 6, 127)]:
            self.assertEqual(bits_of(beacon(first=first, shift=shift, records=records), length),
                             stream_of(contents_of(records, 0)))

    def test_counts_of_time_records(self):
        for first, shift, length in [(0, 0, 7), (2, 0, 15), (3, 1000, 7), (40, -250, 7), (0, 5, 127)]:
            records = [("time", 77), OWN_ORBIT, ("time", 0), ("time", 1), OWN_CLOCK, ("time", 12345)]
            bits = bits_of(beacon(first=first, shift=shift, records=records), length)
            collector, place, told = Collector(), 0, []
            for at, sign, content in frames_in(bits):
                self.assertEqual(sign, 1)
                if read_page(list(content))[1] == 0:
                    place = at
                record = collector.take(list(content))
                if record is not None:
                    told.append((place, record))
            self.assertEqual(len(told), len(records))
            for (at, record), was in zip(told, records):
                self.assertEqual(tuple(bits[at:at + 8]), FLAG)
                self.assertEqual(record, ("time", (first + at) * length + shift) if was[0] == "time" else was)
            self.assertEqual(told[0], (0, ("time", first * length + shift)))

    def test_the_numbers_of_the_frames(self):
        records = [OWN_ORBIT] + [("key", 0, 0)] * 2100
        numbers = [read_page(list(content))[0] for _, _, content in frames_in(bits_of(beacon(records=records), 7))]
        self.assertEqual(numbers, [k % 2048 for k in range(len(numbers))])
        self.assertGreater(len(numbers), 2100)

    def test_a_count_is_what_the_clock_reads(self):
        """21.1 and 11.1, for the shift 0: at the time at which the bit begins."""
        clock = Clock(5, -30, 0)
        one = beacon(clock=clock, first=9, records=[OWN_CLOCK, ("time", 0)])
        bits = bits_of(one, 7)
        frames = frames_in(bits)
        collector = Collector()
        record = [collector.take(list(content)) for _, _, content in frames][-1]
        self.assertEqual(record[1], sent_at(clock, 7, 9 + frames[-1][0]) + clock.offset)


class HonestTest(unittest.TestCase):
    """Point 21.2."""

    def test_honest(self):
        for records in ([], [("time", 99)], [OWN_ORBIT], [OWN_CLOCK, OWN_ORBIT, ("time", 1), ("key", 1, 2)],
                        [("tag", 1, 2, 3)]):
            self.assertIs(is_honest(beacon(records=records)), True)
            self.assertIs(is_honest(beacon(records=records, shift=1)), False)
            self.assertIs(is_honest(beacon(records=records, shift=-7)), False)

    def test_another_orbit_or_clock(self):
        for k in range(1, 12):
            other = OWN_ORBIT[:k] + (OWN_ORBIT[k] + 1,) + OWN_ORBIT[k + 1:]
            self.assertIs(is_honest(beacon(records=[other])), False)
            self.assertIs(is_honest(beacon(records=[OWN_ORBIT, other, OWN_ORBIT])), False)
        for k in range(1, 4):
            other = OWN_CLOCK[:k] + (OWN_CLOCK[k] + 1,) + OWN_CLOCK[k + 1:]
            self.assertIs(is_honest(beacon(records=[other])), False)

    def test_records_that_tell_nothing(self):
        late = ("orbit", 1, 0) + OWN_ORBIT[3:]
        for record in (late, ("clock", 0, 0, 65537), ("clock", 0, 0, -65537)):
            self.assertIs(is_honest(beacon(records=[record])), False)
        turned = Orbit(1, 0, (30, 40, 0), (0, 0, 0), (0, 0, 0))
        self.assertIs(is_honest(beacon(orbit=turned, records=[late])), False)


class SkyTest(unittest.TestCase):
    """Point 21.3."""

    def test_the_attributes(self):
        bands, beacons = [band(CODE)], [beacon()]
        one = Sky(bands, 5, (1, 2), beacons)
        bands.append("x")
        beacons.append("x")
        self.assertEqual((one.bands, one.radius, one.mask, one.beacons), ([band(CODE)], 5, (1, 2), [beacon()]))
        self.assertFalse(one == (one.bands, 5, (1, 2), one.beacons))

    def test_codes(self):
        one = Sky([band(CODE, TURNED), band(), band(LONG)], 0, FREE, [None] * 3)
        self.assertEqual([code_of(one, k) for k in range(3)], [CODE, TURNED, LONG])

    def test_no_beacon(self):
        self.assertIs(is_heard(sky(None), 0, (30, 40, 9)), False)

    def test_seen_and_above_the_mask(self):
        rng = random.Random(213)
        many = {}
        for _ in range(600):
            place, point = random_point(rng, 9), random_point(rng, 9)
            radius, mask = rng.randint(0, 6), (rng.randint(0, 3), rng.randint(1, 3))
            if point != (0, 0, 0):
                kind = is_seen(radius, point, place), is_above(mask, point, place)
                one = sky(beacon(orbit=still_at(*place)), radius=radius, mask=mask)
                self.assertIs(is_heard(one, 0, point), kind == (True, True))
                many[kind] = many.get(kind, 0) + 1
        self.assertEqual(len(many), 4)

    def test_the_time_at_which_the_first_period_is_sent(self):
        """The beacon goes away from above the point at the time 100."""
        moves = Orbit(0, 900, (100, 0, 0), (-(2 ** 20), 0, 0), (0, 0, 0))
        for first, is_there in [(0, True), (11, True), (12, True), (13, False), (90, False)]:
            one = sky(beacon(orbit=moves, clock=Clock(0, 0, 0), first=first))
            self.assertIs(is_heard(one, 0, (12, 0, 0)), is_there)
            self.assertIs(is_heard(sky(beacon(orbit=moves, clock=Clock(0, 7, 0), first=first + 1)), 0, (12, 0, 0)),
                          is_there)

    def test_a_position_that_is_none(self):
        late = still_at(30, 40, 0, begin=20)
        with self.assertRaises(InvalidOrbit) as caught:
            is_heard(sky(beacon(orbit=late)), 0, (1, 1, 1))
        self.assertEqual(caught.exception.place, 14)
        is_heard(sky(beacon(orbit=late, first=3)), 0, (1, 1, 1))
        with self.assertRaises(InvalidOrbit):
            is_heard(sky(beacon(orbit=still_at(1000001, 0, 0))), 0, (1, 1, 1))


class StreamTest(unittest.TestCase):
    """Point 21.4."""

    def test_the_stream(self):
        one = beacon(amplitude=-10, first=4, records=[("time", 0), OWN_CLOCK])
        bits = bits_of(one, 7)
        for offset in (-29, 0, 5):
            self.assertEqual(stream_of_beacon(sky(one), 0, (30, 40, 1), offset),
                             Stream(CODE, -10, 28 + 1 + offset, [0] * len(bits), bits))

    def test_steps(self):
        moves = Orbit(0, 9000, (500, 0, 0), (2 ** 20 // 7, 0, 0), (0, 0, 0))
        one = beacon(orbit=moves, clock=Clock(0, 3, 0), first=1, records=[("time", 0)])
        bits = bits_of(one, 7)
        told = stream_of_beacon(sky(one), 0, (400, 0, 0), 9)
        self.assertEqual(told.first, start_of(moves, one.clock, 7, 1, (400, 0, 0), 9))
        self.assertEqual(told.steps, steps_of(moves, one.clock, 7, 1, len(bits), (400, 0, 0), 9))
        self.assertIn(1, told.steps)
        self.assertEqual(len(told.steps), len(bits))

    def test_whether_it_is_heard_or_not(self):
        one = sky(beacon())
        self.assertIs(is_heard(one, 0, (90, 90, 0)), False)
        self.assertEqual(stream_of_beacon(one, 0, (90, 90, 0), 0).first, 14 + 78)

    def check(self, place, *arguments):
        with self.assertRaises(InvalidOrbit) as caught:
            stream_of_beacon(*arguments)
        self.assertEqual(caught.exception.place, place)

    def test_errors_and_their_order(self):
        point = (30, 40, 0)
        # The first position comes before the start, and the start before the steps.
        self.check(14, sky(beacon(orbit=still_at(30, 40, 0, begin=15))), 0, point, -99)
        self.check(2, sky(beacon(orbit=still_at(30, 40, 0, end=20))), 0, point, -15)
        self.check(21, sky(beacon(orbit=still_at(30, 40, 0, end=20))), 0, point, -14)
        self.check(2, sky(beacon(first=2)), 0, point, -15)
        self.assertEqual(stream_of_beacon(sky(beacon(first=2)), 0, point, -14).first, 0)
        # A step that is too long: the number of its period.
        fast = Orbit(0, 9000, (30, 40, 0), (2 ** 20, 0, 0), (0, 0, 0))
        self.check(2, sky(beacon(orbit=fast)), 0, point, 0)
        # All starts but the one behind the last period are in time: it is looked at, too.
        last = 14 + 7 * 8
        self.check(last, sky(beacon(orbit=still_at(30, 40, 0, end=last - 1))), 0, point, 0)
        stream_of_beacon(sky(beacon(orbit=still_at(30, 40, 0, end=last))), 0, point, 0)


class ReceivedTest(unittest.TestCase):
    """Point 21.5."""

    POINT = (30, 40, 1)

    def test_nothing_in_the_sky(self):
        self.assertEqual(received(Sky([], 0, FREE, []), self.POINT, 0, []), [])
        self.assertIs(is_within(Sky([], 0, FREE, []), self.POINT, 0, []), True)
        self.assertEqual(received(sky(None), self.POINT, 0, [[1, -1, 0]]), [[1, -1, 0]])
        self.assertEqual(received(sky(None, None), self.POINT, 0, [[], [5]]), [[], [5]])

    def test_sums_in_each_band(self):
        one, two = beacon(records=[("time", 0)]), beacon(amplitude=-7, first=3)
        three = beacon(orbit=still_at(31, 41, 9))
        bands = [band(CODE, TURNED), band(LONG, greatest=99)]
        noises = [[1, -1] * 100, [0, 1] * 90]
        told = received(sky(one, two, three, bands=bands), self.POINT, 6, noises)
        world = sky(one, two, three, bands=bands)
        streams = [stream_of_beacon(world, k, self.POINT, 6) for k in range(3)]
        below = [is_heard(world, k, self.POINT) for k in range(3)]
        self.assertEqual(below, [False, False, True])
        self.assertEqual(told, [noises[0], samples([streams[2]], noises[1])])
        near = (29, 39, 0)
        streams = [stream_of_beacon(world, k, near, 6) for k in range(3)]
        self.assertEqual([is_heard(world, k, near) for k in range(3)], [True] * 3)
        self.assertEqual(received(world, near, 6, noises),
                         [samples(streams[:2], noises[0]), samples(streams[2:], noises[1])])
        for missing in range(3):
            some = sky(*[None if k == missing else row for k, row in enumerate((one, two, three))], bands=bands)
            rows = [[streams[at] for at in part if at != missing] for part in ((0, 1), (2,))]
            self.assertEqual(received(some, near, 6, noises), [samples(row, noise) for row, noise in zip(rows, noises)])

    def test_errors_beacon_by_beacon(self):
        near = (29, 39, 0)
        late, negative = beacon(orbit=still_at(30, 40, 0, begin=15)), beacon(first=1)
        for beacons, place in [((late, negative), 14), ((negative, late), 1), ((beacon(), negative), 1),
                               ((None, late), 14), ((beacon(first=3), late, negative), 14)]:
            world = sky(*beacons)
            noises = [[9] * 3 for _ in beacons]
            for function in (received, is_within):
                with self.assertRaises(InvalidOrbit) as caught:
                    function(world, near, -9, noises)
                self.assertEqual(caught.exception.place, place)

    def test_a_beacon_that_is_not_heard_has_no_stream(self):
        away, negative = (90, 90, 0), beacon(first=0)
        self.assertEqual(received(sky(negative), away, -200, [[1]]), [[1]])
        self.assertIs(is_within(sky(negative), away, -200, [[1]]), True)
        # Its first position is looked at all the same.
        with self.assertRaises(InvalidOrbit):
            received(sky(beacon(orbit=still_at(30, 40, 0, begin=15))), away, 0, [[1]])

    def test_within(self):
        near = (29, 39, 0)
        for amplitude, is_right in [(5, True), (7, True), (-5, True), (-7, True), (4, False), (8, False), (-4, False),
                                    (-8, False), (6, True)]:
            world = sky(beacon(amplitude=amplitude), bands=[band(CODE, least=5, greatest=7)])
            self.assertIs(is_within(world, near, 0, [[0, 1]]), is_right)
            # The amplitude of a beacon that is not heard does not count.
            self.assertIs(is_within(world, (90, 90, 0), 0, [[0, 1]]), True)
        for noise, is_right in [([], True), ([2, -2, 0], True), ([0, 0, 3], False), ([-3], False)]:
            self.assertIs(is_within(sky(None, bands=[band(CODE, noise=2)]), near, 0, [noise]), is_right)
            self.assertIs(is_within(sky(beacon(), bands=[band(CODE, noise=2)]), near, 0, [noise]), is_right)
        # The second band, and the second code of a band.
        for second, is_right in [(10, True), (11, False)]:
            for bands in ([band(CODE), band(TURNED)], [band(CODE, TURNED)]):
                world = sky(beacon(), beacon(amplitude=second), bands=bands)
                self.assertIs(is_within(world, near, 0, [[]] * len(bands)), is_right)
        self.assertIs(is_within(sky(None, None), near, 0, [[0], [2]]), False)

    def test_steps_in_a_band_that_does_not_move(self):
        moves = Orbit(0, 9000, (500, 0, 0), (2 ** 20 // 7, 0, 0), (0, 0, 0))
        for moving in (True, False):
            world = sky(beacon(orbit=moves, records=[("time", 0)]), bands=[band(CODE, moving=moving)])
            self.assertIs(is_within(world, (400, 0, 0), 0, [[]]), moving)
        slow = Orbit(0, 9000, (500, 0, 0), (1, 0, 0), (0, 0, 0))
        self.assertIs(is_within(sky(beacon(orbit=slow)), (400, 0, 0), 0, [[]]), True)


class JourneyTest(unittest.TestCase):
    """Point 21.6."""

    def test_the_problems(self):
        world = sky(beacon(records=[("time", 0)]), beacon(orbit=still_at(60, 60, 0)))
        almanac = [(ORBIT, CLOCK), (still_at(60, 60, 0), None)]
        noises = [[1, 0] * 400, [0, -1] * 400]
        stops = [((29, 39, 0), 5, noises, 60), ((28, 39, 0), 4, noises, 800), ((90, 90, 9), 0, [[], []], 3)]
        box = ((0, 9), (1, 2), (3, 3))
        told = journey(world, almanac, stops, box, -4, 7, 1)
        self.assertEqual(told, [problem_at(world.bands, almanac, received(world, point, offset, rows), n, box, -4, 7, 1)
                                for point, offset, rows, n in stops])
        self.assertEqual([len(one.observations) for one in told], [1, 1, 0])
        self.assertEqual([one.modulus for problem in told[:2] for one in problem.observations], [7, None])
        self.assertEqual(journey(world, almanac, [], box, -4, 7, 1), [])
        self.assertEqual(told[2], Problem([], box, -4, 7, 1))


def some_orbit(rng, place):
    """An orbit whose beacon stays, or moves as slowly as point 11.7 asks for."""
    speed = [0, 0, 0]
    if rng.random() < 0.5:
        speed[rng.randint(0, 2)] = rng.randint(-(2 ** 20) // 15, 2 ** 20 // 15)
    return Orbit(rng.randint(0, 9), 90000, place, tuple(speed), (0, 0, 0))


def own_records(rng, one):
    """Records of an honest beacon."""
    orbit, clock = one.orbit, one.clock
    told = [("orbit", orbit.begin, orbit.end, *orbit.place, *orbit.speed, *orbit.pull),
            ("clock", clock.begin, clock.offset, clock.drift), ("time", 0), ("key", 3, 4)]
    return [rng.choice(told) for _ in range(rng.randint(0, 4))]


def some_beacon(rng, is_true):
    """A beacon of which a part is told wrong if it is not true."""
    place = tuple(50 + rng.randint(0, 30) for _ in range(3))
    one = beacon(rng.choice((10, -10)), some_orbit(rng, place), Clock(rng.randint(0, 9), rng.randint(-20, 20), 0),
                 rng.randint(6, 20))
    one.records += own_records(rng, one)
    if not is_true:
        one.shift = rng.choice((7, -7, 70, 15, 3, 0))
        if one.shift == 0 or rng.random() < 0.3:
            x, y, z = place
            lies = [("orbit", 0, 90000, x + rng.randint(1, 20), y, z, 0, 0, 0, 0, 0, 0), ("clock", 0, 99, 0)]
            one.records.append(rng.choice(lies))
    return one


class SolutionTest(unittest.TestCase):
    """Points 20.5 and 21.7, over random skies."""

    def test_the_point_and_the_offset_are_a_solution(self):
        rng = random.Random(217)
        told = {"seen": 0, "wrong": 0, "lies": 0}
        for _ in range(100):
            true = [rng.random() < 0.6 for _ in range(4)]
            beacons = [some_beacon(rng, is_true) for is_true in true]
            codes = [rng.choice((CODE, TURNED, LONG)) for _ in beacons]
            world = sky(*beacons, bands=[band(code, moving=True) for code in codes])
            self.assertTrue(all(margin(settings, 0) > 0 for settings in world.bands))
            point, offset = tuple(40 + rng.randint(0, 20) for _ in range(3)), rng.randint(-9, 9)
            box = tuple((at - rng.randint(0, 1), at + rng.randint(0, 1)) for at in point)
            noises = [[rng.randint(-1, 1) for _ in range(rng.randint(0, 3000))] for _ in beacons]
            almanac = [(rng.choice((one.orbit, None)), rng.choice((one.clock, None))) for one in beacons]
            self.assertIs(is_within(world, point, offset, noises), True)
            liars = [k for k, one in enumerate(beacons) if is_heard(world, k, point) and not is_honest(one)]
            rows = received(world, point, offset, noises)
            for n in [rng.randint(0, 3000) for _ in range(2)] + [10 ** 6]:
                problem = problem_at(world.bands, almanac, rows, n, box, offset - 1, offset + 1,
                                     len(liars) + rng.choice((0, 0, 1)))
                self.assertTrue(is_solution(problem, point, offset))
                found = zip(sorted({one.sender for one in problem.observations}), verdicts(problem))
                wrong = [sender for sender, word in found if word == "wrong"]
                self.assertLessEqual(set(wrong), set(liars))
                told["seen"] += len(problem.observations)
                told["wrong"] += len(wrong)
                told["lies"] += len(liars)
        self.assertGreater(min(told.values()), 9)


    def test_two_senders_in_one_band(self):
        codes = family((1, 7))[:2]
        settings = band(*codes)
        self.assertGreater(min(margin(settings, 0), margin(settings, 1)), 0)
        first = beacon(orbit=still_at(60, 70, 80, end=90000), first=1, records=[("time", 0)])
        second = beacon(-10, still_at(70, 60, 90, end=90000), Clock(0, 40, 0), 2, 0, [("time", 0)])
        world = sky(first, second, bands=[settings])
        point, offset = (50, 50, 50), 33
        noises = [[1, -1, -1] * 4800]
        rows = received(world, point, offset, noises)
        self.assertIs(is_within(world, point, offset, noises), True)
        told = heard(world.bands, rows)
        self.assertEqual([one.records for one in told], [[(0, ("time", 127))], [(0, ("time", 254))]])
        self.assertEqual([one.track[0][0] for one in told],
                         [stream_of_beacon(world, k, point, offset).first for k in range(2)])
        almanac = [(one.orbit, one.clock) for one in world.beacons]
        for n in (500, 14200):
            problem = problem_at(world.bands, almanac, rows, n, ((45, 55), (50, 50), (50, 50)), 0, 99, 0)
            self.assertEqual([one.modulus for one in problem.observations], [127 if n == 500 else None] * 2)
            self.assertTrue(is_solution(problem, point, offset))


class UnchangedTest(unittest.TestCase):
    def test_the_arguments_are_as_before(self):
        one = beacon(records=[("time", 5), OWN_ORBIT])
        world, noises = sky(one, beacon(first=3)), [[1, 0] * 200, [0] * 50]
        almanac, stops = [(ORBIT, CLOCK), (None, None)], [((29, 39, 0), 5, noises, 60)]
        before = copy.deepcopy([one, world.bands, world.beacons, noises, almanac, stops])
        bits_of(one, 7).append("x")
        is_honest(one)
        stream_of_beacon(world, 0, (29, 39, 0), 5).bits.append("x")
        received(world, (29, 39, 0), 5, noises)[0].append("x")
        is_within(world, (29, 39, 0), 5, noises)
        journey(world, almanac, stops, ((0, 0),) * 3, 0, 0, 0).append("x")
        self.assertEqual([one, world.bands, world.beacons, noises, almanac, stops], before)
        self.assertEqual(position(ORBIT, 0), (30, 40, 0))


if __name__ == "__main__":
    unittest.main()
