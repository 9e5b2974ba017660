import unittest

from rangekeep.codes import maximal_code
from rangekeep.samples import Stream, samples, starts, value

CODE = maximal_code((2, 3))
OTHER = maximal_code((1, 3))


def expected_value(stream, t):
    """Point 03.2, read off word by word."""
    size = len(stream.code)
    start = stream.first
    for moved, bit in zip(stream.steps, stream.bits):
        end = start + size + moved
        if start <= t <= end - 1:
            return stream.amplitude * stream.code[min(t - start, size - 1)] * (1 if bit == 1 else -1)
        start = end
    return 0


class StreamTest(unittest.TestCase):
    def make(self, **changed):
        told = {"code": CODE, "amplitude": 3, "first": 2, "steps": [0, 1], "bits": [1, 0]}
        told.update(changed)
        return Stream(**told)

    def test_the_attributes(self):
        stream = Stream(CODE, -3, 2, [0, 1], [1, 0])
        self.assertEqual((stream.code, stream.amplitude, stream.first), (CODE, -3, 2))
        self.assertEqual((stream.steps, stream.bits), ([0, 1], [1, 0]))

    def test_equal_attributes(self):
        self.assertTrue(self.make() == self.make())
        self.assertFalse(self.make() != self.make())

    def test_one_attribute_that_differs(self):
        for name, other in [("code", OTHER), ("amplitude", -3), ("first", 3), ("steps", [0, 0]), ("bits", [1, 1])]:
            with self.subTest(name):
                self.assertFalse(self.make() == self.make(**{name: other}))
                self.assertTrue(self.make() != self.make(**{name: other}))

    def test_values_of_another_kind(self):
        for other in [None, 0, "x", (CODE, 3, 2, [0, 1], [1, 0]), [], object()]:
            self.assertFalse(self.make() == other)
            self.assertFalse(other == self.make())
            self.assertTrue(self.make() != other)

    def test_the_lists_are_copied(self):
        steps, bits = [0, 1], [1, 0]
        stream = Stream(CODE, 3, 2, steps, bits)
        steps.append(1)
        bits[0] = 0
        self.assertEqual(stream, self.make())


class StartsTest(unittest.TestCase):
    def test_each_step(self):
        self.assertEqual(starts(Stream(CODE, 1, 0, [0, 0], [1, 1])), [0, 7, 14])
        self.assertEqual(starts(Stream(CODE, 1, 5, [-1, 0, 1, -1], [1, 1, 0, 0])), [5, 11, 18, 26, 32])
        self.assertEqual(starts(Stream(maximal_code((2, 5)), 1, 3, [1, -1], [1, 1])), [3, 35, 65])

    def test_no_period(self):
        self.assertEqual(starts(Stream(CODE, 1, 4, [], [])), [4])

    def test_the_stream_is_as_before(self):
        stream = Stream(CODE, 1, 5, [-1, 0], [1, 0])
        starts(stream).append(9)
        value(stream, 6)
        samples([stream], [0, 0])
        self.assertEqual(stream, Stream(CODE, 1, 5, [-1, 0], [1, 0]))
        self.assertEqual(starts(stream), [5, 11, 18])


class ValueTest(unittest.TestCase):
    def test_both_bits_and_both_signs(self):
        for amplitude in (1, -1, 12, -12):
            for bit in (0, 1):
                stream = Stream(CODE, amplitude, 0, [0], [bit])
                sign = 1 if bit else -1
                self.assertEqual([value(stream, t) for t in range(7)], [amplitude * sign * chip for chip in CODE])

    def test_a_long_period_has_the_last_chip_twice(self):
        stream = Stream(OTHER, 2, 1, [1, 0], [1, 1])
        told = [2 * chip for chip in OTHER]
        self.assertEqual([value(stream, t) for t in range(17)], [0] + told + told[-1:] + told + [0])

    def test_a_short_period_lacks_the_last_chip(self):
        stream = Stream(OTHER, 2, 1, [-1, 0], [1, 0])
        told = [2 * chip for chip in OTHER]
        self.assertEqual([value(stream, t) for t in range(15)], [0] + told[:-1] + [-chip for chip in told] + [0])

    def test_outside_of_the_periods(self):
        stream = Stream(CODE, 5, 3, [1, -1], [1, 0])
        end = starts(stream)[-1]
        self.assertEqual([value(stream, t) for t in (0, 1, 2, end, end + 1, end + 100)], [0] * 6)
        self.assertNotIn(0, [value(stream, t) for t in range(3, end)])

    def test_no_period_at_all(self):
        self.assertEqual([value(Stream(CODE, 5, 0, [], []), t) for t in range(9)], [0] * 9)

    def test_all_steps(self):
        stream = Stream(OTHER, -4, 2, [-1, 0, 1, 1, -1, -1], [1, 0, 0, 1, 1, 0])
        self.assertEqual([value(stream, t) for t in range(60)], [expected_value(stream, t) for t in range(60)])


class SamplesTest(unittest.TestCase):
    def test_no_streams(self):
        noise = [1, -2, 0]
        heard = samples([], noise)
        self.assertEqual(heard, [1, -2, 0])
        heard.append(4)
        self.assertEqual(noise, [1, -2, 0])

    def test_an_empty_noise(self):
        self.assertEqual(samples([Stream(CODE, 1, 0, [0], [1])], []), [])
        self.assertEqual(samples([], []), [])

    def test_several_streams_that_overlap(self):
        streams = [Stream(CODE, 3, 0, [0, 1, -1], [1, 0, 1]), Stream(OTHER, -5, 4, [1, 1], [0, 1]),
                   Stream(maximal_code((2, 5)), 2, 9, [-1], [0])]
        noise = [(7 * k) % 5 - 2 for k in range(50)]
        before = list(noise)
        expected = [noise[t] + sum(expected_value(stream, t) for stream in streams) for t in range(50)]
        self.assertEqual(samples(streams, noise), expected)
        self.assertEqual(noise, before)

    def test_streams_that_go_on_behind_the_noise(self):
        stream = Stream(CODE, 3, 2, [0, 0], [1, 0])
        for many in (1, 2, 3, 8, 9, 10, 15, 16, 17, 20):
            expected = [expected_value(stream, t) for t in range(many)]
            self.assertEqual(samples([stream], [0] * many), expected)

    def test_a_stream_without_periods(self):
        self.assertEqual(samples([Stream(CODE, 3, 0, [], [])], [1, 1]), [1, 1])


if __name__ == "__main__":
    unittest.main()
