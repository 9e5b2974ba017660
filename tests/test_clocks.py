import random
import unittest
from fractions import Fraction
from math import floor

from rangekeep.clocks import Clock, reading, time_of

PARTS = 2 ** 20
DRIFTS = (-65536, -65535, -1000, -1, 0, 1, 1000, 65535, 65536)


class ClockTest(unittest.TestCase):
    def make(self, **changed):
        told = {"begin": 3, "offset": -7, "drift": 11}
        told.update(changed)
        return Clock(**told)

    def test_the_attributes(self):
        clock = Clock(3, -7, 11)
        self.assertEqual((clock.begin, clock.offset, clock.drift), (3, -7, 11))

    def test_equal_attributes(self):
        self.assertTrue(self.make() == self.make())
        self.assertFalse(self.make() != self.make())

    def test_one_attribute_that_differs(self):
        for name, other in [("begin", 4), ("offset", 7), ("drift", 0)]:
            with self.subTest(name):
                self.assertFalse(self.make() == self.make(**{name: other}))
                self.assertTrue(self.make() != self.make(**{name: other}))

    def test_values_of_another_kind(self):
        for other in [None, 3, (3, -7, 11), "x", [], object()]:
            self.assertFalse(self.make() == other)
            self.assertFalse(other == self.make())
            self.assertTrue(self.make() != other)


def times_about(clock, rng):
    """Times before, at and behind the begin of a clock, near and far."""
    near = list(range(clock.begin - 40, clock.begin + 41))
    return near + [clock.begin + rng.randint(-10 ** 9, 10 ** 9) for _ in range(20)]


class ReadingTest(unittest.TestCase):
    def test_against_exact_quotients(self):
        rng = random.Random(10)
        for drift in DRIFTS:
            clock = Clock(rng.randint(-99, 99), rng.randint(-99, 99), drift)
            for t in times_about(clock, rng):
                part = Fraction(drift * (t - clock.begin), PARTS)
                self.assertEqual(reading(clock, t), t + clock.offset + floor(part))

    def test_some_readings(self):
        fast, slow = Clock(100, 5, 65536), Clock(100, 5, -65536)
        self.assertEqual([reading(fast, t) for t in (84, 99, 100, 115, 116, 131, 132)],
                         [88, 103, 105, 120, 122, 137, 139])
        self.assertEqual([reading(slow, t) for t in (84, 99, 100, 101, 116, 117)], [90, 104, 105, 105, 120, 120])
        self.assertEqual(reading(Clock(100, 5, 1), 99), 103)
        self.assertEqual(reading(Clock(100, 5, -1), 99), 104)
        self.assertEqual(reading(Clock(100, 5, -1), 101), 105)

    def test_a_reading_grows_by_0_1_or_2(self):
        rng = random.Random(101)
        for drift in DRIFTS:
            clock = Clock(rng.randint(-99, 99), rng.randint(-99, 99), drift)
            grown = {reading(clock, t + 1) - reading(clock, t) for t in times_about(clock, rng)}
            self.assertLessEqual(grown, {0, 1, 2})
            if drift in (-65536, 65536):
                self.assertEqual(grown, {0, 1} if drift < 0 else {1, 2})


class TimeOfTest(unittest.TestCase):
    def test_the_least_time_with_at_least_this_reading(self):
        rng = random.Random(102)
        for drift in DRIFTS:
            clock = Clock(rng.randint(-99, 99), rng.randint(-999, 999), drift)
            for near in times_about(clock, rng):
                value = reading(clock, near) + rng.randint(-2, 2)
                t = time_of(clock, value)
                self.assertGreaterEqual(reading(clock, t), value)
                self.assertLess(reading(clock, t - 1), value)

    def test_readings_that_are_left_out(self):
        fast = Clock(100, 0, 65536)
        self.assertEqual([reading(fast, 115), reading(fast, 116)], [115, 117])
        self.assertEqual([time_of(fast, value) for value in (115, 116, 117, 118)], [115, 116, 116, 117])

    def test_readings_that_last_for_two_times(self):
        slow = Clock(100, 0, -65536)
        self.assertEqual([reading(slow, t) for t in (99, 100, 101, 102)], [99, 100, 100, 101])
        self.assertEqual([time_of(slow, value) for value in (99, 100, 101)], [99, 100, 102])
        self.assertEqual([reading(slow, t) for t in (115, 116, 117, 118)], [114, 115, 115, 116])
        self.assertEqual([time_of(slow, value) for value in (114, 115, 116)], [115, 116, 118])

    def test_far_from_the_begin(self):
        for drift in (-65536, 65536, 3):
            clock = Clock(5, 7, drift)
            for t in (10 ** 12, -10 ** 12):
                value = reading(clock, t)
                found = time_of(clock, value)
                self.assertLessEqual(found, t)
                self.assertEqual(reading(clock, found), value)
                self.assertLess(reading(clock, found - 1), value)

    def test_without_a_drift(self):
        self.assertEqual([time_of(Clock(50, 3, 0), value) for value in (-10, 0, 3, 60)], [-13, -3, 0, 57])

    def test_at_most_a_time(self):
        rng = random.Random(103)
        for drift in DRIFTS:
            clock = Clock(rng.randint(-99, 99), rng.randint(-99, 99), drift)
            for t in times_about(clock, rng):
                for value in range(reading(clock, t) - 3, reading(clock, t) + 4):
                    self.assertEqual(time_of(clock, value) <= t, value <= reading(clock, t))

    def test_readings_that_differ_by_2_have_different_times(self):
        for drift in DRIFTS:
            clock = Clock(0, 0, drift)
            for value in range(-60, 60):
                self.assertLess(time_of(clock, value), time_of(clock, value + 2))


if __name__ == "__main__":
    unittest.main()
