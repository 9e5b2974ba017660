import random
import unittest
from fractions import Fraction
from math import floor

from helpers import random_point, written_distance
from rangekeep.clocks import Clock
from rangekeep.errors import InvalidOrbit
from rangekeep.offsets import Observation, holds
from rangekeep.orbits import Orbit
from rangekeep.ranges import observed, observed_unread, sent_at, start_of, steps_of

PARTS = 2 ** 20
STILL = (0, 0, 0)
TOP = 1000000


def written_reading(clock, t):
    return t + clock.offset + floor(Fraction(clock.drift * (t - clock.begin), PARTS))


def written_sent(clock, length, m):
    """The least time at which the clock reads at least m * length, found by halving."""
    low, high = -10 ** 7, 10 ** 7
    while high - low > 1:
        at = (low + high) // 2
        if written_reading(clock, at) >= m * length:
            high = at
        else:
            low = at
    return high


def written_position(orbit, t):
    d = t - orbit.begin
    point = tuple(at + floor(Fraction(speed * d + pull * (d * (d - 1) // 2), PARTS))
                  for at, speed, pull in zip(orbit.place, orbit.speed, orbit.pull))
    if not orbit.begin <= t <= orbit.end or max(abs(at) for at in point) > TOP:
        raise InvalidOrbit(t)
    return point


def written_start(orbit, clock, length, m, point, offset):
    t = written_sent(clock, length, m)
    return t + written_distance(written_position(orbit, t), point) + offset


def outcome(call, *args):
    """What a call returns, or the place of its InvalidOrbit."""
    try:
        return call(*args)
    except InvalidOrbit as error:
        return "InvalidOrbit", error.place


def standing(place, begin=-9000, end=9000):
    return Orbit(begin, end, place, STILL, STILL)


class SentTest(unittest.TestCase):
    def test_without_a_drift(self):
        clock = Clock(100, 5, 0)
        self.assertEqual([sent_at(clock, 15, m) for m in (-2, -1, 0, 1, 4)], [-35, -20, -5, 10, 55])

    def test_any_clocks(self):
        rng = random.Random(111)
        for _ in range(200):
            clock = Clock(rng.randint(-999, 999), rng.randint(-999, 999), rng.choice((0, 1, -1, 5000, 65536, -65536)))
            length, m = rng.choice((7, 15, 31, 63, 127)), rng.randint(-300, 300)
            self.assertEqual(sent_at(clock, length, m), written_sent(clock, length, m))

    def test_readings_that_are_left_out_and_that_last(self):
        fast, slow = Clock(0, 0, 65536), Clock(0, 0, -65536)
        # 16 times have 17 readings of the fast clock, and 15 of the slow one.
        self.assertEqual([sent_at(fast, 17, m) for m in (-1, 0, 1, 2)], [-16, 0, 16, 32])
        self.assertEqual([sent_at(slow, 15, m) for m in (-1, 0, 1, 2)], [-16, 0, 16, 32])


class StartTest(unittest.TestCase):
    def test_the_distance_and_the_offset(self):
        orbit, clock = standing((30, 40, 0)), Clock(0, 5, 0)
        self.assertEqual(start_of(orbit, clock, 15, 4, (0, 0, 0), 7), 55 + 50 + 7)
        self.assertEqual(start_of(orbit, clock, 15, 4, (30, 40, 1), -7), 55 + 1 - 7)
        self.assertEqual(start_of(orbit, clock, 15, -4, (0, 0, 0), 0), -65 + 50)

    def test_the_position_when_it_is_sent(self):
        orbit = Orbit(0, 900, (0, 0, 0), (PARTS, 0, 0), STILL)
        self.assertEqual([start_of(orbit, Clock(0, 0, 0), 10, m, (0, 0, 0), 0) for m in (0, 1, 2)], [0, 20, 40])

    def test_any_orbits_and_clocks(self):
        rng = random.Random(112)
        for _ in range(200):
            orbit = Orbit(-5000, 5000, random_point(rng, 500), random_point(rng, PARTS // 9), random_point(rng, 99))
            clock = Clock(rng.randint(-999, 999), rng.randint(-999, 999), rng.choice((0, 1, -1, 5000, 65536, -65536)))
            told = [orbit, clock, rng.choice((7, 31)), rng.randint(-90, 90), random_point(rng, 500),
                    rng.randint(-99, 99)]
            self.assertEqual(outcome(start_of, *told), outcome(written_start, *told))

    def test_errors_are_those_of_the_position(self):
        clock = Clock(0, 0, 0)
        late = Orbit(50, 100, (1, 1, 1), STILL, STILL)
        self.assertEqual(outcome(start_of, late, clock, 7, 7, (0, 0, 0), 3), ("InvalidOrbit", 49))
        self.assertEqual(outcome(start_of, late, clock, 7, 8, (0, 0, 0), 3), 56 + 1 + 3)
        self.assertEqual(outcome(start_of, late, clock, 7, 14, (0, 0, 0), 3), 98 + 1 + 3)
        self.assertEqual(outcome(start_of, late, clock, 7, 15, (0, 0, 0), 3), ("InvalidOrbit", 105))
        outward = Orbit(0, 100, (0, 0, TOP - 20), (0, 0, PARTS), STILL)
        self.assertEqual(outcome(start_of, outward, clock, 7, 3, (0, 0, TOP), 0), ("InvalidOrbit", 21))


class StepsTest(unittest.TestCase):
    def check(self, orbit, clock, length, m, count, point, offset, told):
        self.assertEqual(outcome(steps_of, orbit, clock, length, m, count, point, offset), told)

    def test_an_orbit_that_stands(self):
        orbit = standing((30, 40, 0))
        self.check(orbit, Clock(0, 5, 0), 15, 4, 2, (0, 0, 0), 7, [0, 0])
        self.check(orbit, Clock(0, 5, 0), 15, -4, 3, (0, 9, 0), -7, [0, 0, 0])

    def test_a_clock_with_a_drift(self):
        orbit = standing((30, 40, 0))
        self.check(orbit, Clock(0, 0, 65536), 17, 0, 3, (0, 0, 0), 0, [-1, -1, -1])
        self.check(orbit, Clock(0, 0, -65536), 15, -1, 3, (0, 0, 0), 0, [1, 1, 1])
        self.check(orbit, Clock(0, 0, 65536), 7, 0, 5, (0, 0, 0), 0, [0, 0, -1, 0, -1])

    def test_orbits_that_move_slowly(self):
        away = Orbit(0, 900, (10, 0, 0), (PARTS // 7, 0, 0), STILL)
        self.check(away, Clock(0, 0, 0), 7, 0, 4, (0, 0, 0), 5, [0, 1, 1, 1])
        near = Orbit(0, 900, (90, 0, 0), (-(PARTS // 7), 0, 0), STILL)
        self.check(near, Clock(0, 0, 0), 7, 0, 4, (0, 0, 0), 5, [-1, -1, -1, -1])

    def test_the_first_step_that_is_too_great(self):
        away = Orbit(0, 900, (10, 0, 0), (PARTS, 0, 0), STILL)
        self.check(away, Clock(0, 0, 0), 7, 3, 4, (0, 0, 0), 5, ("InvalidOrbit", 3))
        # The part of the first period is rounded down to 1, and the next ones grow by 2.
        past = Orbit(0, 900, (-20, 0, 0), (2 * PARTS // 7, 0, 0), STILL)
        self.check(past, Clock(0, 0, 0), 7, 0, 1, (0, 0, 0), 0, [-1])
        self.check(past, Clock(0, 0, 0), 7, 1, 3, (0, 0, 0), 0, ("InvalidOrbit", 1))
        faster = Orbit(0, 900, (0, 0, 0), STILL, (PARTS // 49, 0, 0))
        self.check(faster, Clock(0, 0, 0), 7, 0, 2, (0, 0, 0), 0, [0, 1])
        self.check(faster, Clock(0, 0, 0), 7, 0, 3, (0, 0, 0), 0, ("InvalidOrbit", 2))
        self.check(faster, Clock(0, 0, 0), 7, 2, 1, (0, 0, 0), 0, ("InvalidOrbit", 2))

    def test_steps_of_just_1_and_of_2(self):
        for sign in (1, -1):
            for way, told in [(1, [sign, sign]), (2, ("InvalidOrbit", 0))]:
                orbit = Orbit(0, 900, (500, 0, 0), (sign * way * PARTS // 8, 0, 0), STILL)
                self.check(orbit, Clock(0, 0, 0), 8, 0, 2, (0, 0, 0), 0, told)

    def test_errors_of_the_position(self):
        clock = Clock(0, 0, 0)
        late = Orbit(21, 42, (0, 0, 0), STILL, STILL)
        self.check(late, clock, 7, 2, 2, (0, 0, 0), 0, ("InvalidOrbit", 14))
        self.check(late, clock, 7, 3, 3, (0, 0, 0), 0, [0, 0, 0])
        self.check(late, clock, 7, 3, 4, (0, 0, 0), 0, ("InvalidOrbit", 49))

    def test_the_first_error_by_the_periods(self):
        clock = Clock(0, 0, 0)
        fast = Orbit(7, 28, (0, 0, 0), (PARTS, 0, 0), STILL)
        self.check(fast, clock, 7, 0, 5, (0, 0, 0), 0, ("InvalidOrbit", 0))
        self.check(fast, clock, 7, 1, 5, (0, 0, 0), 0, ("InvalidOrbit", 1))
        self.check(fast, clock, 7, 3, 1, (0, 0, 0), 0, ("InvalidOrbit", 3))
        self.check(fast, clock, 7, 4, 1, (0, 0, 0), 0, ("InvalidOrbit", 35))

    def test_a_count_of_0(self):
        fast = Orbit(7, 28, (0, 0, 0), (PARTS, 0, 0), STILL)
        self.check(fast, Clock(0, 0, 0), 7, 1, 0, (0, 0, 0), 0, [])
        self.check(fast, Clock(0, 0, 0), 7, 4, 0, (0, 0, 0), 0, [])
        self.check(fast, Clock(0, 0, 0), 7, 5, 0, (0, 0, 0), 0, ("InvalidOrbit", 35))

    def test_against_the_starts(self):
        rng = random.Random(1121)
        many = {}
        for _ in range(300):
            length = rng.choice((7, 15, 31))
            orbit = Orbit(-600, 600, random_point(rng, 300),
                          tuple(rng.randint(-PARTS, PARTS) // length for _ in range(3)), random_point(rng, 50))
            clock = Clock(rng.randint(-99, 99), rng.randint(-99, 99), rng.choice((0, 0, 9000, -9000, 65536)))
            m, count, point = rng.randint(-30, 20), rng.randint(0, 8), random_point(rng, 300)
            told, expected = outcome(steps_of, orbit, clock, length, m, count, point, 4), []
            starts = [outcome(written_start, orbit, clock, length, k, point, 4) for k in range(m, m + count + 1)]
            for k, start in enumerate(starts):
                if isinstance(start, tuple):
                    expected = start
                    break
                if k > 0:
                    step = start - starts[k - 1] - length
                    if step not in (-1, 0, 1):
                        expected = ("InvalidOrbit", m + k - 1)
                        break
                    expected.append(step)
            self.assertEqual(told, expected)
            many[type(told)] = many.get(type(told), 0) + 1
        self.assertGreater(min(many[list], many[tuple]), 50)

    def test_slow_orbits_have_small_steps(self):
        """Point 11.7."""
        rng = random.Random(117)
        for length in (7, 15, 31, 63, 127):
            for axis in range(3):
                for sign in (1, -1):
                    speed = [0, 0, 0]
                    speed[axis] = sign * (PARTS // length)
                    for _ in range(12):
                        orbit = Orbit(0, 10 ** 6, random_point(rng, 40), tuple(speed), STILL)
                        clock = Clock(rng.randint(-9, 9), -rng.randint(10, 99), 0)
                        steps = steps_of(orbit, clock, length, rng.randint(0, 9), 90, random_point(rng, 99), 0)
                        self.assertLessEqual(set(steps), {-1, 0, 1})


class ObservedTest(unittest.TestCase):
    TRACK = [(97, 1), (112, 0), (128, 1), (142, 1)]
    ORBIT = Orbit(0, 1000, (30, 40, 0), (PARTS, 0, 0), STILL)
    CLOCK = Clock(0, 5, 0)

    def observed(self, place, count, n, orbit=ORBIT, clock=CLOCK):
        return outcome(observed, 3, orbit, clock, 15, self.TRACK, place, count, n)

    def check(self, told, point, reading):
        self.assertEqual(told, Observation(3, point, reading, 0, None))

    def test_the_last_period_that_has_begun(self):
        # The record is at the first bit: the readings are 45, 60, 75 and 90, and their times 5 less.
        self.check(self.observed(0, 45, 97), (70, 40, 0), 97 - 40)
        self.check(self.observed(0, 45, 111), (70, 40, 0), 97 - 40)
        self.check(self.observed(0, 45, 112), (85, 40, 0), 112 - 55)
        self.check(self.observed(0, 45, 141), (100, 40, 0), 128 - 70)
        self.check(self.observed(0, 45, 142), (115, 40, 0), 142 - 85)
        self.check(self.observed(0, 45, 99999), (115, 40, 0), 142 - 85)

    def test_a_record_at_a_later_bit(self):
        self.check(self.observed(1, 60, 97), (70, 40, 0), 97 - 40)
        self.check(self.observed(3, 90, 112), (85, 40, 0), 112 - 55)
        self.check(self.observed(3, 90, 150), (115, 40, 0), 142 - 85)

    def test_a_count_that_is_no_multiple_of_the_length(self):
        self.check(self.observed(2, 76, 97), (71, 40, 0), 97 - 41)

    def test_a_clock_with_a_drift(self):
        slow = Clock(0, 0, -65536)
        self.check(self.observed(0, 15, 98, clock=slow), (46, 40, 0), 97 - 16)
        self.check(self.observed(0, 15, 113, clock=slow), (62, 40, 0), 112 - 32)

    def test_no_start_is_at_most_n(self):
        self.assertIsNone(self.observed(0, 45, 96))
        self.assertIsNone(self.observed(0, 45, -5))
        self.assertIsNone(observed(3, self.ORBIT, self.CLOCK, 15, [], 0, 45, 500))
        # The position is not looked at.
        self.assertIsNone(self.observed(0, 10 ** 9, 96))

    def test_errors_of_the_position(self):
        self.assertEqual(self.observed(0, 10 ** 6, 97), ("InvalidOrbit", 999995))
        self.assertEqual(self.observed(3, 15, 97), ("InvalidOrbit", -35))
        outward = Orbit(0, 1000, (TOP - 40, 0, 0), (PARTS, 0, 0), STILL)
        self.check(self.observed(0, 45, 97, orbit=outward), (TOP, 0, 0), 57)
        self.assertEqual(self.observed(0, 46, 97, orbit=outward), ("InvalidOrbit", 41))

    def test_the_arguments_are_as_before(self):
        track = [(97, 1), (112, 0)]
        observed(3, self.ORBIT, self.CLOCK, 15, track, 0, 45, 120)
        observed_unread(3, standing((1, 2, 3)), self.CLOCK, 15, track, 120)
        self.assertEqual(track, [(97, 1), (112, 0)])

    def test_what_is_told_right_holds(self):
        """Point 11.6, with a time record."""
        rng = random.Random(116)
        for _ in range(120):
            length, m = rng.choice((7, 15, 31)), rng.randint(0, 20)
            orbit = Orbit(-500, 3000, random_point(rng, 200), random_point(rng, PARTS // 90), random_point(rng, 3))
            clock = Clock(rng.randint(-99, 99), rng.randint(-99, 99), rng.choice((0, 0, 70, -70, 65536, -65536)))
            point, offset = random_point(rng, 200), rng.randint(-50, 500)
            track = [(start_of(orbit, clock, length, m + k, point, offset), k % 2) for k in range(20)]
            place, n = rng.randint(0, 19), rng.randint(track[0][0], track[-1][0] + 40)
            one = observed(0, orbit, clock, length, track, place, (m + place) * length, n)
            self.assertTrue(holds(one, written_distance(one.point, point), offset))
            self.assertFalse(holds(one, written_distance(one.point, point), offset + 1))


class UnreadTest(unittest.TestCase):
    TRACK = [(97, 1), (112, 0), (128, 1)]

    def test_the_last_period_that_has_begun(self):
        orbit, clock = standing((30, 40, 0)), Clock(77, 5, 0)
        for n, reading in [(97, 102), (111, 102), (112, 117), (127, 117), (128, 133), (9999, 133)]:
            self.assertEqual(observed_unread(3, orbit, clock, 15, self.TRACK, n),
                             Observation(3, (30, 40, 0), reading, 0, 15))

    def test_no_start_is_at_most_n(self):
        orbit, clock = standing((30, 40, 0)), Clock(0, 5, 0)
        self.assertIsNone(observed_unread(3, orbit, clock, 15, self.TRACK, 96))
        self.assertIsNone(observed_unread(3, orbit, clock, 15, [], 500))

    def test_another_orbit_or_clock(self):
        still, clock = standing((30, 40, 0)), Clock(0, 5, 0)
        for axis in range(3):
            for far in (1, -1, 9000):
                moved = tuple(far if k == axis else 0 for k in range(3))
                for orbit in (Orbit(0, 900, (30, 40, 0), moved, STILL), Orbit(0, 900, (30, 40, 0), STILL, moved)):
                    self.assertIsNone(observed_unread(3, orbit, clock, 15, self.TRACK, 120))
        for drift in (1, -1, 65536):
            self.assertIsNone(observed_unread(3, still, Clock(0, 5, drift), 15, self.TRACK, 120))

    def test_the_times_of_the_orbit_do_not_count(self):
        orbit = standing((30, 40, 0), 5000, 5001)
        self.assertEqual(observed_unread(3, orbit, Clock(0, 5, 0), 15, self.TRACK, 97).reading, 102)

    def test_what_is_told_right_holds(self):
        """Point 11.6, without a time record."""
        rng = random.Random(1161)
        for _ in range(100):
            length, m = rng.choice((7, 15, 31)), rng.randint(-20, 20)
            orbit, clock = standing(random_point(rng, 200)), Clock(rng.randint(-99, 99), rng.randint(-99, 99), 0)
            point, offset = random_point(rng, 200), rng.randint(-50, 500)
            track = [(start_of(orbit, clock, length, m + k, point, offset), k % 2) for k in range(20)]
            one = observed_unread(0, orbit, clock, length, track, rng.randint(track[0][0], track[-1][0] + 40))
            far = written_distance(one.point, point)
            self.assertEqual([holds(one, far, offset + k) for k in (0, 1, -1, length, -2 * length)],
                             [True, False, False, True, True])


if __name__ == "__main__":
    unittest.main()
