import random
import unittest

from helpers import allowed
from rangekeep.acquiring import acquired, correlation, follow, hits, tracks
from rangekeep.codes import family, maximal_code
from rangekeep.margin import Settings, loud, margin, quiet
from rangekeep.samples import Stream, samples, starts

CODE = maximal_code((2, 3))
OTHER = maximal_code((1, 3))
LONG = family((2, 5))


def correlations(heard, code):
    """The correlation at each index whose window lies in the samples."""
    size = len(code)
    return {at: sum(code[i] * heard[at + i] for i in range(size)) for at in range(len(heard) - size + 1)}


def expected_hits(heard, code, threshold):
    found = correlations(heard, code)
    return [(at, 1 if found[at] > 0 else 0) for at in sorted(found) if abs(found[at]) >= threshold]


def expected_track(heard, code, at, threshold):
    found = correlations(heard, code)
    size = len(code)
    told = []
    while True:
        told.append((at, 1 if found[at] > 0 else 0))
        near = [(-abs(found[k]), k) for k in (at + size - 1, at + size, at + size + 1)
                if k in found and abs(found[k]) >= threshold]
        if not near:
            return told
        _, at = min(near)


def expected_tracks(heard, code, threshold):
    told = []
    for at, _ in expected_hits(heard, code, threshold):
        if not any(at == place for track in told for place, _ in track):
            told.append(expected_track(heard, code, at, threshold))
    return told


class CorrelationTest(unittest.TestCase):
    def test_each_index(self):
        rng = random.Random(1)
        for code in (CODE, OTHER, LONG[4]):
            heard = [rng.randint(-9, 9) for _ in range(50)]
            before = list(heard)
            expected = correlations(heard, code)
            self.assertEqual({at: correlation(heard, at, code) for at in expected}, expected)
            self.assertEqual(heard, before)

    def test_samples_that_are_the_code(self):
        self.assertEqual(correlation(list(CODE), 0, CODE), 7)
        self.assertEqual(correlation([0, 0] + [-3 * chip for chip in CODE], 2, CODE), -21)


class HitsTest(unittest.TestCase):
    def test_the_threshold(self):
        heard = [0, 0, 0] + [2 * chip for chip in CODE] + [-2 * chip for chip in CODE] + [0]
        self.assertEqual([correlation(heard, 3, CODE), correlation(heard, 10, CODE)], [14, -14])
        self.assertEqual(hits(heard, CODE, 14), [(3, 1), (10, 0)])
        self.assertEqual(hits(heard, CODE, 15), [])
        heard[3] += heard[3]
        self.assertEqual([correlation(heard, 3, CODE), correlation(heard, 10, CODE)], [16, -14])
        self.assertEqual([hits(heard, CODE, 16), hits(heard, CODE, 17)], [[(3, 1)], []])

    def test_one_below_the_threshold(self):
        heard = [3 * chip for chip in CODE]
        heard[0] -= CODE[0]
        self.assertEqual(correlation(heard, 0, CODE), 20)
        self.assertEqual([hits(heard, CODE, 20), hits(heard, CODE, 21)], [[(0, 1)], []])

    def test_samples_that_are_shorter_than_the_code(self):
        self.assertEqual(hits([], CODE, 1), [])
        self.assertEqual(hits([5], CODE, 1), [])
        self.assertEqual(hits(list(CODE)[:6], CODE, 1), [])
        self.assertEqual(hits(list(CODE), CODE, 1), [(0, 1)])

    def test_the_first_and_the_last_index(self):
        heard = [-chip for chip in CODE] + list(CODE)
        self.assertEqual(hits(heard, CODE, 7), [(0, 0), (7, 1)])

    def test_any_samples(self):
        rng = random.Random(2)
        for _ in range(40):
            heard = [rng.randint(-3, 3) for _ in range(rng.randint(0, 40))]
            for threshold in (1, 5, 9):
                self.assertEqual(hits(heard, CODE, threshold), expected_hits(heard, CODE, threshold))


class FollowTest(unittest.TestCase):
    def test_the_first_index_need_not_be_a_hit(self):
        self.assertEqual(follow([0] * 7, CODE, 0, 1), [(0, 0)])
        self.assertEqual(follow(list(CODE), CODE, 0, 100), [(0, 1)])
        self.assertEqual(follow([0] * 7 + [-chip for chip in CODE], CODE, 0, 7), [(0, 0), (7, 0)])

    def test_each_step(self):
        for moved in (-1, 0, 1):
            heard = samples([Stream(CODE, 3, 2, [moved, 0, moved], [1, 0, 1])], [0] * 40)
            self.assertEqual(follow(heard, CODE, 2, 21)[:2], [(2, 1), (9 + moved, 0)])

    def test_two_equal_values_that_stand_side_by_side(self):
        heard = [1, 0, 2, 0, -1, 1, -2, 0, 1, 0, 1, 2, -1, 2, -2, 2, -1]
        self.assertEqual([correlation(heard, at, CODE) for at in (6, 7, 8)], [-1, 5, -5])
        self.assertEqual(follow(heard, CODE, 0, 5), [(0, 0), (7, 1)])

    def test_two_equal_values_with_another_one_between(self):
        heard = [2, 2, 2, 2, -1, 1, 1, -2, 2, -2, -2, 1, 1, 0, 1, 0, -2]
        self.assertEqual([correlation(heard, at, CODE) for at in (6, 7, 8)], [-5, 0, 5])
        self.assertEqual(follow(heard, CODE, 0, 5), [(0, 0), (6, 0)])
        self.assertEqual(follow(heard, CODE, 0, 6), [(0, 0)])

    def test_three_equal_values(self):
        heard = [-1] * 15
        self.assertEqual([correlation(heard, at, CODE) for at in (6, 7, 8)], [1, 1, 1])
        self.assertEqual(follow(heard, CODE, 0, 1), [(0, 1), (6, 1)])

    def test_the_window_of_the_next_index_lies_in_the_samples(self):
        heard = list(CODE) * 2
        self.assertEqual(follow(heard, CODE, 0, 7), [(0, 1), (7, 1)])
        self.assertEqual(follow(heard[:-1], CODE, 0, 7), [(0, 1)])

    def test_any_samples(self):
        rng = random.Random(3)
        for _ in range(60):
            heard = [rng.randint(-3, 3) for _ in range(60)]
            before = list(heard)
            for threshold in (1, 5, 9):
                for at in range(0, 54, 5):
                    self.assertEqual(follow(heard, CODE, at, threshold), expected_track(heard, CODE, at, threshold))
            self.assertEqual(heard, before)


class TracksTest(unittest.TestCase):
    def test_one_stream(self):
        stream = Stream(CODE, -4, 3, [0, 1, 0, 1], [1, 0, 0, 1])
        heard = samples([stream], [0] * 34)
        self.assertEqual(tracks(heard, CODE, 28), [[(3, 0), (10, 1), (18, 1), (25, 0)]])

    def test_no_hits(self):
        self.assertEqual(tracks([0] * 30, CODE, 1), [])
        self.assertEqual(tracks([], CODE, 1), [])

    def test_tracks_that_go_through_hits_of_other_tracks(self):
        heard = [-2, 0, 1, 1, -2, -2, -2, 2, -2, -1, 2, 0, 2, 1, -1, 2, -2, 1, 0, 1, 1, -1, 1, -1, 1, -2]
        self.assertEqual(hits(heard, CODE, 8), [(2, 0), (4, 1), (10, 0)])
        self.assertEqual(tracks(heard, CODE, 8), [[(2, 0), (10, 0)], [(4, 1), (10, 0)]])

    def test_any_samples(self):
        rng = random.Random(4)
        for _ in range(60):
            heard = [rng.randint(-3, 3) for _ in range(rng.randint(0, 70))]
            for threshold in (1, 6, 8, 10):
                self.assertEqual(tracks(heard, CODE, threshold), expected_tracks(heard, CODE, threshold))

    def test_the_lists_are_new(self):
        heard = list(CODE) * 2
        tracks(heard, CODE, 7)[0].append(None)
        self.assertEqual(tracks(heard, CODE, 7), [[(0, 1), (7, 1)]])


class AcquiredTest(unittest.TestCase):
    def test_a_margin_that_is_not_positive(self):
        heard = samples([Stream(CODE, 2, 0, [0, 0], [1, 1])], [0] * 20)
        self.assertEqual(acquired(Settings([CODE], [(2, 13)], 0, False), heard), [[[(0, 1), (7, 1)]]])
        self.assertEqual(acquired(Settings([CODE], [(2, 14)], 0, False), heard), [None])
        self.assertEqual(acquired(Settings([CODE], [(2, 15)], 0, False), heard), [None])

    def test_the_threshold_is_the_loud_value(self):
        settings = Settings([CODE], [(4, 5)], 0, False)
        self.assertEqual(loud(settings, 0), 28)
        loud_enough = [4 * chip for chip in CODE]
        self.assertEqual(acquired(settings, loud_enough), [[[(0, 1)]]])
        loud_enough[2] -= CODE[2]
        self.assertEqual(acquired(settings, loud_enough), [[]])

    def test_a_code_that_is_not_sent(self):
        settings = Settings([CODE, OTHER], [(100, 100), (60, 60)], 0, False)
        self.assertEqual([margin(settings, i) > 0 for i in (0, 1)], [False, False])
        settings = Settings([LONG[3], LONG[22]], [(10, 10), (9, 9)], 0, False)
        self.assertEqual([margin(settings, i) > 0 for i in (0, 1)], [True, True])
        heard = samples([Stream(LONG[3], 10, 4, [0, 0, 0], [0, 1, 1])], [0] * 100)
        self.assertEqual(acquired(settings, heard), [[[(4, 0), (35, 1), (66, 1)]], []])

    def test_some_of_several_codes_may_have_no_margin(self):
        settings = Settings([LONG[0], LONG[1]], [(100, 100), (9, 9)], 0, False)
        streams = [Stream(LONG[0], -100, 1, [0, 0], [0, 1]), Stream(LONG[1], 9, 5, [0, 0], [0, 1])]
        self.assertEqual(acquired(settings, samples(streams, [0] * 70)), [[[(1, 1), (32, 0)]], None])

    def check_reliance(self, settings, seed, size, sent):
        """Point 05.4, for thresholds from just above the quiet value to the loud one."""
        streams, heard = allowed(seed, settings, size, sent)
        told = acquired(settings, heard)
        for i, code in enumerate(settings.codes):
            self.assertGreater(margin(settings, i), 0)
            expected = []
            if i in streams:
                sign = 1 if streams[i].amplitude > 0 else -1
                expected = [(at, bit if sign == 1 else 1 - bit) for at, bit in zip(starts(streams[i]), streams[i].bits)
                            if at + len(code) <= size]
            for threshold in (quiet(settings, i) + 1, loud(settings, i)):
                self.assertEqual(hits(heard, code, threshold), expected)
                self.assertEqual(tracks(heard, code, threshold), [expected] if expected else [])
            self.assertEqual(told[i], [expected] if expected else [])

    def test_all_that_the_settings_allow(self):
        for seed in range(40):
            self.check_reliance(Settings([CODE], [(10, 12)], 2, False), seed, 60, [0])
            self.check_reliance(Settings([CODE], [(20, 21)], 1, True), seed, 60, [0])
        for seed in range(6):
            self.check_reliance(Settings([LONG[3], LONG[22]], [(30, 30), (29, 30)], 1, False), seed, 200, [0, 1])
            self.check_reliance(Settings([LONG[3], LONG[22]], [(30, 30), (29, 30)], 1, False), seed, 200, [1])
            self.check_reliance(Settings([LONG[4]], [(9, 10)], 2, True), seed, 200, [0])

    def test_several_codes(self):
        codes = family((1, 7))
        settings = Settings([codes[7], codes[8], codes[18]], [(200, 200), (199, 200), (200, 201)], 1, False)
        self.check_reliance(settings, 5, 500, [0, 1, 2])
        self.check_reliance(settings, 6, 500, [2, 0])

    def test_several_codes_with_steps(self):
        codes = family((1, 7))
        settings = Settings([codes[1], codes[5]], [(50, 52), (50, 50)], 1, True)
        self.check_reliance(settings, 7, 700, [0, 1])
        self.check_reliance(settings, 8, 700, [1])


if __name__ == "__main__":
    unittest.main()
