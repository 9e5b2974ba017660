import unittest

from helpers import allowed
from rangekeep.acquiring import correlation
from rangekeep.codes import family, maximal_code
from rangekeep.margin import Settings, loud, margin, quiet, weight, worst
from rangekeep.samples import starts

CODE = maximal_code((2, 3))
OTHER = maximal_code((1, 3))
THIRD = family((2, 3))[4]
LONG = family((2, 5))


def written_weight(a, b, length, offset, following):
    """The weight of an alignment, from two periods that are written one behind the other."""
    size = len(b)
    periods = [b[min(k, size - 1)] for k in range(length)] + [b[min(k, size - 1)] for k in range(following)]
    window = periods[offset:offset + len(a)]
    assert len(window) == len(a)
    inside = sum(a[i] * window[i] for i in range(len(a)) if offset + i < length)
    behind = sum(a[i] * window[i] for i in range(len(a)) if offset + i >= length)
    return abs(inside) + abs(behind)


def written_worst(a, b, moving):
    size = len(a)
    lengths = [size - 1, size, size + 1] if moving else [size]
    return max(written_weight(a, b, length, offset, size) for length in lengths for offset in range(length)
               if not (a == b and offset == 0))


class SettingsTest(unittest.TestCase):
    def make(self, **changed):
        told = {"codes": [CODE, OTHER], "amplitudes": [(3, 4), (1, 9)], "noise": 2, "moving": True}
        told.update(changed)
        return Settings(**told)

    def test_the_attributes(self):
        told = self.make()
        self.assertEqual((told.codes, told.amplitudes), ([CODE, OTHER], [(3, 4), (1, 9)]))
        self.assertEqual((told.noise, told.moving), (2, True))

    def test_the_lists_are_copied(self):
        codes, amplitudes = [CODE, OTHER], [(3, 4), (1, 9)]
        told = Settings(codes, amplitudes, 2, True)
        codes.append(THIRD)
        amplitudes[0] = (1, 1)
        self.assertEqual(told, self.make())

    def test_equal_attributes(self):
        self.assertTrue(self.make() == self.make())
        self.assertFalse(self.make() != self.make())

    def test_one_attribute_that_differs(self):
        for name, other in [("codes", [CODE, THIRD]), ("amplitudes", [(3, 4), (1, 8)]), ("noise", 0),
                            ("moving", False)]:
            with self.subTest(name):
                self.assertFalse(self.make() == self.make(**{name: other}))
                self.assertTrue(self.make() != self.make(**{name: other}))

    def test_values_of_another_kind(self):
        for other in [None, 2, ([CODE, OTHER], [(3, 4), (1, 9)], 2, True), object()]:
            self.assertFalse(self.make() == other)
            self.assertFalse(other == self.make())


class WeightTest(unittest.TestCase):
    def check(self, a, b):
        size = len(a)
        for length in (size - 1, size, size + 1):
            for offset in range(length):
                for following in (size - 1, size, size + 1):
                    self.assertEqual(weight(a, b, length, offset), written_weight(a, b, length, offset, following))

    def test_all_alignments(self):
        for a, b in [(CODE, CODE), (CODE, OTHER), (OTHER, CODE), (THIRD, OTHER), (LONG[0], LONG[0]),
                     (LONG[0], LONG[9])]:
            self.check(a, b)

    def test_the_first_and_the_last_offset(self):
        # CODE is - - - + + - +, and OTHER is - - - + - + +.
        self.assertEqual([weight(CODE, CODE, length, 0) for length in (6, 7, 8)], [7, 7, 7])
        self.assertEqual([weight(CODE, OTHER, length, 0) for length in (6, 7, 8)], [3, 3, 3])
        self.assertEqual([weight(CODE, OTHER, 6, 5), weight(CODE, OTHER, 7, 6), weight(CODE, OTHER, 8, 7)],
                         [1 + 4, 1 + 4, 1 + 4])


class WorstTest(unittest.TestCase):
    def test_with_itself_and_with_others(self):
        for a in (CODE, OTHER, THIRD):
            for b in (CODE, OTHER, THIRD):
                for moving in (False, True):
                    self.assertEqual(worst(a, b, moving), written_worst(a, b, moving))
        for a, b in [(LONG[0], LONG[0]), (LONG[1], LONG[5]), (LONG[5], LONG[1])]:
            for moving in (False, True):
                self.assertEqual(worst(a, b, moving), written_worst(a, b, moving))

    def test_some_values(self):
        self.assertEqual([worst(CODE, CODE, False), worst(CODE, CODE, True)], [1, 3])
        self.assertEqual([worst(CODE, OTHER, False), worst(CODE, OTHER, True)], [5, 5])

    def test_the_offset_1_counts_for_equal_codes(self):
        code = (1, 1, -1, 1, -1, 1, 1)
        found = {(length, offset): weight(code, code, length, offset) for length in (6, 7, 8)
                 for offset in range(1, length)}
        self.assertEqual([place for place in found if found[place] >= 5], [(6, 1)])
        self.assertEqual(worst(code, code, True), 5)

    def test_the_offset_0_counts_for_different_codes_only(self):
        nearly = CODE[:-1] + (-CODE[-1],)
        self.assertEqual(worst(CODE, nearly, False), 5)
        self.assertEqual(worst(CODE, nearly, True), 7)
        self.assertLess(worst(CODE, CODE, False), 5)


class LevelsTest(unittest.TestCase):
    def check(self, settings):
        for i, code in enumerate(settings.codes):
            size = len(code)
            least, greatest = settings.amplitudes[i]
            others = sum(settings.amplitudes[k][1] * written_worst(code, settings.codes[k], settings.moving)
                         for k in range(len(settings.codes)) if k != i)
            above = least * (size - 2 if settings.moving else size) - others - settings.noise * size
            below = greatest * written_worst(code, code, settings.moving) + others + settings.noise * size
            self.assertEqual((loud(settings, i), quiet(settings, i)), (above, below))
            self.assertEqual(margin(settings, i), above - below)

    def test_one_two_and_three_codes(self):
        for moving in (False, True):
            for noise in (0, 1, 5):
                self.check(Settings([CODE], [(2, 30)], noise, moving))
                self.check(Settings([CODE, OTHER], [(9, 10), (1, 2)], noise, moving))
                self.check(Settings([OTHER, CODE, THIRD], [(1, 1), (50, 60), (2, 7)], noise, moving))

    def test_margins_that_are_positive_0_and_negative(self):
        self.assertEqual(margin(Settings([CODE], [(2, 13)], 0, False), 0), 1)
        self.assertEqual(margin(Settings([CODE], [(2, 14)], 0, False), 0), 0)
        self.assertEqual(margin(Settings([CODE], [(2, 15)], 0, False), 0), -1)
        self.assertEqual(margin(Settings([CODE], [(2, 1)], 1, False), 0), -1)

    def test_moving(self):
        settings = Settings([CODE], [(10, 12)], 2, True)
        self.assertEqual([loud(settings, 0), quiet(settings, 0), margin(settings, 0)], [36, 50, -14])

    def test_the_settings_are_as_before(self):
        settings = Settings([CODE, OTHER], [(9, 10), (1, 2)], 3, True)
        margin(settings, 1)
        self.assertEqual(settings, Settings([CODE, OTHER], [(9, 10), (1, 2)], 3, True))


class RelianceTest(unittest.TestCase):
    """Point 04.6: what the levels say of all samples that the settings allow."""

    def check(self, settings, seed):
        streams, heard = allowed(seed, settings, 5 * len(settings.codes[0]))
        for i, code in enumerate(settings.codes):
            size = len(code)
            bits = dict(zip(starts(streams[i]), streams[i].bits))
            for at in range(len(heard) - size + 1):
                told = correlation(heard, at, code)
                if at not in bits:
                    self.assertLessEqual(abs(told), quiet(settings, i))
                    continue
                self.assertGreaterEqual(abs(told), loud(settings, i))
                if loud(settings, i) > 0:
                    bit = 1 if streams[i].amplitude > 0 else 0
                    self.assertEqual(told > 0, bits[at] == bit)

    def test_streams_with_amplitudes_of_both_signs(self):
        for seed in range(60):
            for moving in (False, True):
                self.check(Settings([CODE], [(5, 9)], 1, moving), seed)
                self.check(Settings([CODE, OTHER], [(40, 41), (2, 3)], 2, moving), seed)
                self.check(Settings([THIRD, CODE, OTHER], [(1, 3), (9, 9), (2, 2)], 0, moving), seed)
        for seed in range(4):
            self.check(Settings([LONG[0], LONG[7]], [(20, 22), (20, 21)], 3, True), seed)

    def test_the_levels_are_reached(self):
        # One short period between two of the other bit loses two chips.
        settings = Settings([CODE], [(1, 1)], 0, True)
        found = set()
        for seed in range(200):
            streams, heard = allowed(seed, settings, 30)
            marks = starts(streams[0])[:-1]
            found.update(abs(correlation(heard, at, CODE)) for at in marks if at + 7 <= 30)
        self.assertEqual(min(found), loud(settings, 0))


if __name__ == "__main__":
    unittest.main()
