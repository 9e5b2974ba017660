import copy
import random
import unittest

from rangekeep.clocks import Clock
from rangekeep.codes import family, maximal_code
from rangekeep.fixing import Problem
from rangekeep.framing import FLAG, frames_in, stream_of, stuff
from rangekeep.margin import Settings, margin
from rangekeep.offsets import Observation
from rangekeep.orbits import Orbit
from rangekeep.ranges import observed, observed_unread
from rangekeep.receiver import Heard, heard, observations, problem_at, told_at
from rangekeep.records import contents_of, pages_of
from rangekeep.samples import Stream, samples
from rangekeep.words import words_of

CODE = maximal_code((2, 3))
L = len(CODE)
BAND = Settings([CODE], [(10, 10)], 1, False)
# Its two codes disturb one another more than the least amplitude is worth.
LOUD_BAND = Settings(family((2, 3))[:2], [(10, 10), (10, 10)], 1, False)
ORBIT = Orbit(0, 9000, (30, 40, 0), (0, 0, 0), (0, 0, 0))
CLOCK = Clock(0, 5, 0)
NOTHING = (None, None)
ORBIT_RECORD = ("orbit", 0, 9000, 30, 40, 0, 0, 0, 0, 0, 0, 0)
CLOCK_RECORD = ("clock", 0, 5, 0)
# It takes three pages.
LONG_ORBIT = Orbit(10 ** 9, 2 * 10 ** 9, (900000, -900001, 900002), (10 ** 6, -10 ** 6, 700000),
                   (800000, -800000, 800001))
LONG_RECORD = ("orbit", 10 ** 9, 2 * 10 ** 9, *LONG_ORBIT.place, *LONG_ORBIT.speed, *LONG_ORBIT.pull)


def still(bits, first=3, amplitude=10, code=CODE):
    return Stream(code, amplitude, first, [0] * len(bits), bits)


def samples_of(bits, first=3, amplitude=10, code=CODE, more=5):
    """The samples of a stream, with some noise of 1 and -1."""
    many = first + len(code) * len(bits) + more
    return samples([still(bits, first, amplitude, code)], [1 - 2 * (k * k % 3 % 2) for k in range(many)])


def bits_sent(records, number=0):
    return stream_of(contents_of(records, number))


def heard_of(bits, first=3, step=L):
    """What is heard of bits whose periods begin at regular distances; all records are told."""
    track = [(first + step * k, bit) for k, bit in enumerate(bits)]
    one, = heard([BAND], [samples_of(bits)])
    return Heard(track, frames_in(bits), one.records)


def end_of(bits, many):
    """The index of the last bit of the flag behind the frame with this index, where each flag ends one frame."""
    at, ends = 0, []
    while at + 8 <= len(bits):
        if tuple(bits[at:at + 8]) == FLAG:
            ends.append(at + 7)
            at += 8
        else:
            at += 1
    return ends[many + 1]


class HeardClassTest(unittest.TestCase):
    TOLD = ([(3, 0), (10, 1)], [(0, 1, (1, 0))], [(0, ("time", 7))])

    def test_the_attributes(self):
        one = Heard(*self.TOLD)
        self.assertEqual((one.track, one.frames, one.records), self.TOLD)

    def test_the_lists_are_copied(self):
        rows = [list(row) for row in self.TOLD]
        one = Heard(*rows)
        for row in rows:
            row.pop()
        self.assertEqual((one.track, one.frames, one.records), self.TOLD)

    def test_equality(self):
        self.assertTrue(Heard(*self.TOLD) == Heard(*self.TOLD))
        self.assertFalse(Heard(*self.TOLD) != Heard(*self.TOLD))
        for k in range(3):
            other = Heard(*[[] if k == at else row for at, row in enumerate(self.TOLD)])
            self.assertFalse(Heard(*self.TOLD) == other)
            self.assertTrue(Heard(*self.TOLD) != other)
        for other in (None, self.TOLD, [], "x", BAND, object()):
            self.assertFalse(Heard(*self.TOLD) == other)
            self.assertFalse(other == Heard(*self.TOLD))


class HeardTest(unittest.TestCase):
    """Point 20.1."""

    def test_no_bands_and_no_samples(self):
        self.assertEqual(heard([], []), [])
        self.assertEqual(heard([BAND], [[]]), [Heard([], [], [])])
        self.assertEqual(heard([Settings([], [], 1, False)], [[1, 2, 3]]), [])

    def test_no_positive_margin(self):
        self.assertTrue(margin(LOUD_BAND, 0) <= 0 and margin(LOUD_BAND, 1) <= 0)
        self.assertEqual(heard([LOUD_BAND], [samples_of([1, 0, 1])]), [None, None])
        # A margin of just 0.
        zero = Settings([CODE], [(1, 6)], 0, False)
        for least in range(1, 7):
            zero = Settings([CODE], [(least, 7)], 0, False)
            self.assertEqual(heard([zero], [[0] * 9]) == [None], margin(zero, 0) <= 0)
        self.assertEqual(margin(Settings([CODE], [(1, 7)], 0, False), 0), 0)

    def test_the_track(self):
        bits = [1, 0, 0, 1, 1]
        self.assertEqual(heard([BAND], [samples_of(bits)]), [Heard([(3 + L * k, bit) for k, bit in enumerate(bits)],
                                                                   [], [])])
        # The first one of several tracks.
        first, second = samples_of([1, 1], more=10), samples_of([0, 0, 0])
        self.assertEqual(heard([BAND], [first + second])[0].track, [(3, 1), (10, 1)])

    def test_frames_and_records(self):
        records = [("time", 700), CLOCK_RECORD]
        bits = bits_sent(records)
        one, = heard([BAND], [samples_of(bits)])
        self.assertEqual(one.frames, frames_in(bits))
        self.assertEqual([place for place, _, _ in one.frames], [0, one.records[1][0]])
        self.assertEqual(one.records, [(0, ("time", 700)), (end_of(bits, 0) - 7, CLOCK_RECORD)])

    def test_a_stream_that_is_turned_over(self):
        bits = bits_sent([("time", 700)])
        one, = heard([BAND], [samples_of(bits, amplitude=-10)])
        self.assertEqual([bit for _, bit in one.track], [1 - bit for bit in bits])
        self.assertEqual([(place, sign) for place, sign, _ in one.frames], [(0, -1)])
        self.assertEqual(one.records, [(0, ("time", 700))])

    def test_several_bands(self):
        codes = [maximal_code((1, 3)), maximal_code((1, 4)), CODE]
        bands = [Settings([code], [(10, 10)], 1, False) for code in codes]
        rows = [samples_of(bits_sent([("time", k)]), code=code) for k, code in enumerate(codes)]
        told = heard(bands[:1] + [LOUD_BAND] + bands[1:], rows[:1] + [rows[2]] + rows[1:])
        self.assertEqual([None if one is None else one.records for one in told],
                         [[(0, ("time", 0))], None, None, [(0, ("time", 1))], [(0, ("time", 2))]])

    def test_a_record_of_several_pages(self):
        bits = bits_sent([("time", 700), LONG_RECORD, CLOCK_RECORD])
        one, = heard([BAND], [samples_of(bits)])
        self.assertEqual(len(contents_of([LONG_RECORD], 0)), 3)
        places = [place for place, _, _ in one.frames]
        self.assertEqual(one.records, [(places[0], ("time", 700)), (places[1], LONG_RECORD), (places[4], CLOCK_RECORD)])

    def test_the_place_of_the_page_with_the_index_0_that_came_last(self):
        pages = pages_of(LONG_RECORD, 1)
        contents = [words_of(page) for page in pages_of(LONG_RECORD, 0)[:1] + pages]
        one, = heard([BAND], [samples_of(stream_of(contents))])
        self.assertEqual(one.records, [(one.frames[1][0], LONG_RECORD)])
        # A page with another index, and a content that is no page, do not count.
        contents = [words_of(pages[0]), [1, 0, 1], words_of(pages[1]), words_of(pages[2])]
        one, = heard([BAND], [samples_of(stream_of(contents))])
        self.assertEqual(one.records, [(0, LONG_RECORD)])

    def test_pages_that_are_lost(self):
        pages = pages_of(LONG_RECORD, 0)
        contents = [words_of(page) for page in pages[:2] + pages_of(CLOCK_RECORD, 3)]
        one, = heard([BAND], [samples_of(stream_of(contents))])
        self.assertEqual(one.records, [(one.frames[2][0], CLOCK_RECORD)])

    def test_contents_that_cannot_be_unstuffed(self):
        bits = bits_sent([("time", 700)])
        wrong = list(FLAG) + [1, 1, 1, 1, 1] + bits
        one, = heard([BAND], [samples_of(wrong)])
        self.assertEqual([content is None for _, _, content in one.frames], [True, False])
        self.assertEqual(one.records, [(13, ("time", 700))])


class ToldAtTest(unittest.TestCase):
    """Point 20.2."""

    def told(self, records, n, known=NOTHING, number=0):
        bits = bits_sent(records, number)
        return told_at(heard_of(bits), L, n, known)

    def when(self, records, many):
        """The sample at which the frame with this index has been received."""
        return 3 + L * end_of(bits_sent(records), many) + L - 1

    def test_nothing(self):
        self.assertEqual(told_at(Heard([], [], []), L, 99, NOTHING), (None, None, None))
        self.assertEqual(told_at(Heard([(3, 1)], [], []), L, 99, (ORBIT, CLOCK)), (ORBIT, CLOCK, None))

    def test_the_first_sample_at_which_a_record_is_heard(self):
        for record, told in [(("time", 700), (None, None, (0, 700))), (CLOCK_RECORD, (None, CLOCK, None)),
                             (ORBIT_RECORD, (ORBIT, None, None)), (LONG_RECORD, (LONG_ORBIT, None, None))]:
            pages = len(contents_of([record], 0))
            when = self.when([record], pages - 1)
            self.assertEqual(self.told([record], when), told)
            self.assertEqual(self.told([record], when + 1), told)
            for n in (when - 1, when - L, 3, 0, -5):
                self.assertEqual(self.told([record], n), (None, None, None))

    def test_the_length_and_the_starts_count(self):
        bits = bits_sent([("time", 700)])
        last = len(bits) - 1
        for length, first, step in [(15, 100, 15), (7, 0, 8), (127, 5, 126)]:
            one = heard_of(bits, first, step)
            when = first + step * last + length - 1
            self.assertEqual([told_at(one, length, n, NOTHING)[2] for n in (when - 1, when)], [None, (0, 700)])

    def test_the_flag_behind_the_frame(self):
        """Further flags, and frames behind it, change nothing."""
        content = contents_of([("time", 700)], 0)[0]
        bits = stream_of([[], content, [], [1, 0]])
        place = 8
        when = 3 + L * (place + 8 + len(stuff(content)) + 7) + L - 1
        told = [told_at(heard_of(bits), L, n, NOTHING)[2] for n in (when - 1, when)]
        self.assertEqual(told, [None, (place, 700)])

    def test_the_last_ones_count(self):
        records = [("time", 1), CLOCK_RECORD, ("clock", 1, 2, 3), ("time", 700), ORBIT_RECORD, ("key", 1, 2),
                   ("orbit", 5, 5, 1, 2, 3, 4, 5, 6, 7, 8, 9), ("tag", 1, 2, 3)]
        bits = bits_sent(records)
        places = [place for place, _, _ in frames_in(bits)]
        later = Orbit(5, 5, (1, 2, 3), (4, 5, 6), (7, 8, 9))
        at, row = 0, (None, None, None)
        expected = []
        for record in records:
            at += len(contents_of([record], 0))
            if record[0] == "time":
                row = row[:2] + ((places[at - 1], record[1]),)
            elif record[0] == "clock":
                row = (row[0], Clock(*record[1:]), row[2])
            elif record[0] == "orbit":
                row = (ORBIT if record == ORBIT_RECORD else later,) + row[1:]
            expected.append((self.when(records, at - 1), row))
        for k, (when, row) in enumerate(expected):
            self.assertEqual(self.told(records, when), row)
            self.assertEqual(self.told(records, when - 1), expected[k - 1][1] if k else (None, None, None))

    def test_the_almanac(self):
        known = (Orbit(1, 2, (3, 4, 5), (6, 7, 8), (9, 9, 9)), Clock(7, 8, 9))
        records = [CLOCK_RECORD, ORBIT_RECORD, ("time", 3)]
        self.assertEqual(self.told(records, 0, known), known + (None,))
        self.assertEqual(self.told(records, self.when(records, 0), known), (known[0], CLOCK, None))
        self.assertEqual(self.told(records, 10 ** 6, known)[:2], (ORBIT, CLOCK))
        self.assertEqual(self.told([], 10 ** 6, (None, known[1])), (None, known[1], None))
        self.assertEqual(self.told([], 10 ** 6, (known[0], None)), (known[0], None, None))

    def test_records_that_tell_nothing(self):
        """Point 20.3: they leave what was told before."""
        known = (Orbit(1, 2, (3, 4, 5), (6, 7, 8), (9, 9, 9)), Clock(7, 8, 9))
        late = ("orbit", 6, 5, 1, 2, 3, 4, 5, 6, 7, 8, 9)
        for record, told in [(late, (None, None, None)), (("clock", 0, 0, 65537), (None, None, None)),
                             (("clock", 0, 0, -65537), (None, None, None)),
                             (("clock", 1, 2, 65536), (None, Clock(1, 2, 65536), None)),
                             (("clock", 1, 2, -65536), (None, Clock(1, 2, -65536), None)),
                             (("orbit", 5, 5) + (0,) * 9, (Orbit(5, 5, (0,) * 3, (0,) * 3, (0,) * 3), None, None))]:
            self.assertEqual(self.told([record], 10 ** 6), told)
            if told == (None, None, None):
                self.assertEqual(self.told([record], 10 ** 6, known), known + (None,))
                self.assertEqual(self.told([ORBIT_RECORD, CLOCK_RECORD, record], 10 ** 6, known), (ORBIT, CLOCK, None))


class ObservationsTest(unittest.TestCase):
    """Point 20.3."""

    def observed(self, records, n, known=NOTHING, number=0):
        told = observations([BAND], [known], [samples_of(bits_sent(records, number))], n)
        self.assertLessEqual(len(told), 1)
        return told[0] if told else None

    def test_with_a_time_record(self):
        records = [("time", 700), ORBIT_RECORD, CLOCK_RECORD]
        bits = bits_sent(records)
        track = heard_of(bits).track
        last = 3 + L * len(bits)
        for n in (last - 1, last, last + 7, 10 ** 6):
            expected = observed(0, ORBIT, CLOCK, L, track, 0, 700, n)
            self.assertIsNotNone(expected)
            self.assertIsNone(expected.modulus)
            self.assertEqual(self.observed(records, n), expected)
        self.assertIsNone(self.observed(records, last - 2))

    def test_the_place_of_the_time_record(self):
        records = [ORBIT_RECORD, CLOCK_RECORD, ("time", 700)]
        bits = bits_sent(records)
        place = frames_in(bits)[-1][0]
        self.assertGreater(place, 0)
        expected = observed(0, ORBIT, CLOCK, L, heard_of(bits).track, place, 700, 10 ** 6)
        self.assertEqual(self.observed(records, 10 ** 6), expected)

    def test_without_a_time_record(self):
        known = (ORBIT, CLOCK)
        track = heard_of(bits_sent([])).track
        self.assertIsNone(self.observed([], 2, known))
        for n in (3, 9, 10, 99):
            self.assertEqual(self.observed([], n, known), observed_unread(0, ORBIT, CLOCK, L, track, n))
        self.assertEqual(self.observed([], 10, known), Observation(0, (30, 40, 0), 15, 0, L))
        moves = Orbit(0, 9000, (30, 40, 0), (0, 1, 0), (0, 0, 0))
        for other in [NOTHING, (ORBIT, None), (None, CLOCK), (moves, CLOCK), (ORBIT, Clock(0, 5, 1))]:
            self.assertIsNone(self.observed([], 10, other))

    def test_the_clock_or_the_orbit_alone(self):
        for records in ([("time", 700), ORBIT_RECORD], [("time", 700), CLOCK_RECORD], [("time", 700)]):
            self.assertIsNone(self.observed(records, 10 ** 6))

    def test_an_orbit_that_does_not_reach_so_far(self):
        """There is no observation then, and not one without the time record."""
        ended = Orbit(0, 600, (30, 40, 0), (0, 0, 0), (0, 0, 0))
        self.assertIsNone(self.observed([("time", 700)], 10 ** 6, (ended, CLOCK)))
        self.assertIsNotNone(self.observed([("time", 700)], 10 ** 6, (ORBIT, CLOCK)))
        self.assertIsNotNone(self.observed([], 10 ** 6, (ended, CLOCK)))
        away = Orbit(0, 9000, (999999, 40, 0), (2 ** 20, 0, 0), (0, 0, 0))
        self.assertIsNone(self.observed([("time", 700)], 10 ** 6, (away, CLOCK)))

    def test_all_senders(self):
        codes = [maximal_code((1, 3)), maximal_code((1, 4)), CODE]
        bands = [Settings([code], [(10, 10)], 1, False) for code in codes]
        rows = [samples_of(bits_sent([("time", 15 * 7 * k)]), code=code) for k, code in enumerate(codes)]
        bands, rows = bands[:1] + [LOUD_BAND] + bands[1:], rows[:1] + [rows[2]] + rows[1:]
        known = (ORBIT, CLOCK)
        almanac = [known, known, known, NOTHING, (ORBIT, Clock(0, 9, 0))]
        told = observations(bands, almanac, rows, 10 ** 6)
        self.assertEqual([one.sender for one in told], [0, 4])
        almanac[3] = known
        told = observations(bands, almanac, rows, 10 ** 6)
        self.assertEqual([one.sender for one in told], [0, 3, 4])
        lengths = {0: 7, 3: 15, 4: 7}
        for one in told:
            k = [0, 3, 4].index(one.sender)
            bits = bits_sent([("time", 15 * 7 * k)])
            track = [(3 + lengths[one.sender] * at, bit) for at, bit in enumerate(bits)]
            clock = almanac[one.sender][1]
            self.assertEqual(one, observed(one.sender, ORBIT, clock, lengths[one.sender], track, 0, 105 * k, 10 ** 6))
        # At the sample 3 the first period of each sender begins, and no record is heard.
        self.assertEqual([one.modulus for one in observations(bands, almanac, rows, 3)], [7, 15, 7])
        self.assertEqual(observations(bands, almanac, rows, 2), [])

    def test_the_problem(self):
        """Point 20.4."""
        rows = [samples_of(bits_sent([("time", 700)]))]
        for n in (0, 3, 500, 10 ** 6):
            box = ((0, 9), (1, 2), (3, 3))
            told = problem_at([BAND], [(ORBIT, CLOCK)], rows, n, box, -4, 7, 2)
            self.assertEqual(told, Problem(observations([BAND], [(ORBIT, CLOCK)], rows, n), box, -4, 7, 2))
        self.assertEqual(problem_at([], [], [], 0, box, 0, 0, 0), Problem([], box, 0, 0, 0))


class UnchangedTest(unittest.TestCase):
    def test_the_arguments_are_as_before(self):
        rng = random.Random(20)
        bits = bits_sent([("time", 700), LONG_RECORD])
        rows = [samples_of(bits), [rng.randint(-3, 3) for _ in range(50)]]
        bands, almanac = [BAND, LOUD_BAND], [(ORBIT, CLOCK), NOTHING, NOTHING]
        before = copy.deepcopy([rows, bands, almanac])
        told = heard(bands, rows)
        one = copy.deepcopy(told[0])
        told_at(told[0], L, 10 ** 6, almanac[0])
        self.assertEqual(told[0], one)
        told[0].records.append("x")
        told.append("x")
        observations(bands, almanac, rows, 10 ** 6).append("x")
        problem_at(bands, almanac, rows, 10 ** 6, ((0, 0),) * 3, 0, 0, 0).observations.append("x")
        self.assertEqual([rows, bands, almanac], before)
        self.assertEqual(heard(bands, rows)[0], one)


if __name__ == "__main__":
    unittest.main()
