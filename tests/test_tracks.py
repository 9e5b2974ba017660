import copy
import random
import unittest

from helpers import offsets_of, points_of, set_of, spans_of, states_of, written_distance
from journeys import LINE, PARTS, at_x, nowhere, ordered, random_journeys, state, steady, too_many, tried, \
    written_linked
from rangekeep.fixing import Problem
from rangekeep.offsets import Observation
from rangekeep.tracks import Journey, Tracker, fitting, is_linked, is_track, kept, least_misses, moment_verdicts, \
    solutions, some_track, track_through


class JourneyTest(unittest.TestCase):
    MOMENTS = [(0, at_x(2)), (5, None)]

    def make(self, **changed):
        told = {"moments": self.MOMENTS, "speed": 3, "drift": 4, "misses": 1}
        told.update(changed)
        return Journey(**told)

    def test_the_attributes(self):
        journey = Journey(self.MOMENTS, 3, 4, 1)
        self.assertEqual((journey.moments, journey.speed, journey.drift, journey.misses), (self.MOMENTS, 3, 4, 1))

    def test_the_moments_are_copied(self):
        moments = list(self.MOMENTS)
        journey = self.make(moments=moments)
        moments.pop()
        self.assertEqual(journey, self.make())

    def test_equal_attributes(self):
        self.assertTrue(self.make() == self.make(moments=[(0, at_x(2)), (5, None)]))
        self.assertFalse(self.make() != self.make(moments=[(0, at_x(2)), (5, None)]))

    def test_one_attribute_that_differs(self):
        for name, other in [("moments", [(0, at_x(3)), (5, None)]), ("moments", [(0, at_x(2)), (6, None)]),
                            ("moments", self.MOMENTS[:1]), ("speed", 4), ("drift", 3), ("misses", 0)]:
            with self.subTest(name):
                self.assertFalse(self.make() == self.make(**{name: other}))
                self.assertTrue(self.make() != self.make(**{name: other}))

    def test_values_of_another_kind(self):
        for other in [None, 3, (self.MOMENTS, 3, 4, 1), "x", self.MOMENTS, object(), Tracker(3, 4, 1)]:
            self.assertFalse(self.make() == other)
            self.assertFalse(other == self.make())
            self.assertTrue(self.make() != other)


class LinkedTest(unittest.TestCase):
    def check(self, journey, elapsed, far, apart):
        """Check that states are linked up to these differences, and no farther."""
        base = ((4, -5, 6), 7)
        for sign in (1, -1):
            for axis in range(3):
                for away in (far, far + 1):
                    point = tuple(at + (sign * away if k == axis else 0) for k, at in enumerate(base[0]))
                    self.assertIs(is_linked(journey, elapsed, base, (point, 7)), away == far)
                    self.assertIs(is_linked(journey, elapsed, (point, 7), base), away == far)
            self.assertIs(is_linked(journey, elapsed, base, ((4, -5, 6), 7 + sign * apart)), True)
            self.assertIs(is_linked(journey, elapsed, base, ((4, -5, 6), 7 + sign * (apart + 1))), False)
            corner = tuple(at + sign * far for at in base[0])
            self.assertIs(is_linked(journey, elapsed, base, (corner, 7 - sign * apart)), True)

    def test_just_at_the_edge_and_one_beyond(self):
        self.check(Journey([], 3 * PARTS, 2 * PARTS, 0), 5, 15, 10)
        self.check(Journey([], PARTS // 2, PARTS // 8, 0), 9, 4, 1)
        self.check(Journey([], 1, PARTS - 1, 0), PARTS - 1, 0, PARTS - 2)
        self.check(Journey([], 1, 0, 0), PARTS, 1, 0)
        self.check(Journey([], 0, 1, 0), PARTS, 0, 1)

    def test_the_elapsed_time_0(self):
        self.check(Journey([], 9 * PARTS, 9 * PARTS, 0), 0, 0, 0)

    def test_links_that_follow_one_another(self):
        rng = random.Random(173)
        many = 0
        for _ in range(3000):
            journey = Journey([], rng.randint(0, 2 * PARTS), rng.randint(0, PARTS), 0)
            e, f = rng.randint(0, 4), rng.randint(0, 4)
            first, second, third = [(tuple(rng.randint(0, 3) for _ in range(3)), rng.randint(0, 2)) for _ in range(3)]
            if is_linked(journey, e, first, second) and is_linked(journey, f, second, third):
                self.assertTrue(is_linked(journey, e + f, first, third))
                many += 1
        self.assertGreater(many, 50)


class SolutionsTest(unittest.TestCase):
    def test_no_problem_and_no_solutions(self):
        self.assertIsNone(solutions(None))
        self.assertEqual(solutions(nowhere()), [])

    def test_2000_places_and_2001(self):
        self.assertIsNone(solutions(too_many()))
        self.assertEqual(solutions(Problem([], ((1, 2000), (0, 0), (0, 0)), 2, 4, 0)),
                         [((x, 0, 0), [(2, 4)]) for x in range(1, 2001)])

    def test_the_offsets_as_intervals(self):
        seen = [Observation(0, (0, 0, 0), 1, 1, 5)]
        self.assertEqual(solutions(Problem(seen, ((2, 4), (0, 0), (0, 0)), 0, 9, 0)),
                         [((2, 0, 0), [(0, 0), (3, 5), (8, 9)]), ((3, 0, 0), [(2, 4), (7, 9)]),
                          ((4, 0, 0), [(1, 3), (6, 8)])])

    def test_ascending_and_only_points_with_offsets(self):
        problem = Problem([Observation(0, (0, 0, 0), 5, 0, None)], ((-5, 5), (-5, 5), (0, 1)), 0, 1, 0)
        self.assertEqual(solutions(problem), set_of(states_of(problem)))


class IsTrackTest(unittest.TestCase):
    JOURNEY = steady([(0, at_x(2)), (2, at_x(4, 1)), (5, None), (6, at_x(6))], misses=1)

    def check(self, track, told, journey=JOURNEY):
        self.assertIs(is_track(journey, track), told)

    def test_tracks(self):
        self.check([state(2), state(4), None, state(6)], True)
        self.check([state(2), state(3), None, state(6)], True)
        self.check([None, state(5), None, state(6)], True)
        self.check([state(2), None, None, state(6)], True)
        self.check([state(2), state(4), None, None], True)

    def test_a_state_that_is_no_solution(self):
        self.check([state(3), state(4), None, state(6)], False)
        self.check([None, state(6), None, state(6)], False)
        self.check([state(2, 1), state(4), None, state(6)], False)
        self.check([state(2), state(4), None, ((6, 1, 0), 0)], False)
        one = steady([(0, at_x(2))])
        for here in (state(1), state(3), state(2, 1), state(2, -1), ((2, 1, 0), 0), ((2, 0, -1), 0)):
            self.check([here], False, one)

    def test_states_that_are_not_linked(self):
        self.check([state(2), state(5), None, state(6)], False)
        fast = steady([(0, at_x(2)), (1, at_x(4, 1)), (3, None), (4, at_x(7))], misses=1)
        self.check([state(2), state(3), None, state(7)], False, fast)
        self.check([state(2), None, None, state(7)], False, fast)
        self.check([None, state(4), None, state(7)], True, fast)

    def test_offsets_that_are_not_linked(self):
        wide = [(0, at_x(2, 2, greatest=2)), (4, at_x(2, 2, greatest=2))]
        for drift, linked in [(PARTS // 4, [0, 1]), (PARTS // 2, [0, 1, 2]), (PARTS // 4 - 1, [0])]:
            for offset in (0, 1, 2):
                self.check([state(1), state(1, offset)], offset in linked, steady(wide, drift=drift))

    def test_open_moments(self):
        self.check([state(2), state(4), state(5), state(6)], False)
        self.check([state(2), state(4), state(6)], False)
        crowded = steady([(0, at_x(2)), (1, too_many()), (2, at_x(2))])
        self.check([state(2), None, state(2)], True, crowded)
        self.check([state(2), state(2), state(2)], False, crowded)

    def test_misses(self):
        self.check([None, None, None, state(6)], False)
        self.check([None] * 4, False)
        for misses in range(4):
            journey = steady(self.JOURNEY.moments, misses=misses)
            self.check([None] * 4, misses >= 3, journey)
            self.check([None, None, None, state(6)], misses >= 2, journey)
            self.check([state(2), state(4), None, state(6)], True, journey)

    def test_other_lengths(self):
        self.check([], False)
        self.check([state(2), state(4), None], False)
        self.check([state(2), state(4), None, state(6), None], False)
        self.check([], True, steady([]))
        self.check([None], False, steady([]))


class TriedTest(unittest.TestCase):
    """Small journeys, against trying all tracks."""

    def test_kept(self):
        many = {}
        for journey in random_journeys(175, 400):
            sets, tracks = tried(journey)
            told = kept(journey)
            for k, states in enumerate(sets):
                if states is None:
                    self.assertIsNone(told[k])
                else:
                    found = [here for here in states if any(track[k] == here for track in tracks)]
                    self.assertEqual(told[k], set_of(found))
                    kind = len(found) > 0, len(found) < len(states)
                    many[kind] = many.get(kind, 0) + 1
            self.assertEqual(len(told), len(sets))
        self.assertGreater(min(many.values()), 10)
        self.assertEqual(len(many), 4)

    def test_is_track(self):
        rng = random.Random(1741)
        many = {}
        for journey in random_journeys(174, 300):
            sets, tracks = tried(journey)
            for track in tracks[:5] + [[rng.choice([None] + (states or [])) for states in sets] for _ in range(5)]:
                self.assertIs(is_track(journey, track), track in tracks)
                many[track in tracks] = many.get(track in tracks, 0) + 1
        self.assertGreater(min(many.values()), 200)

    def test_some_track(self):
        many = {}
        for journey in random_journeys(1751, 400):
            _, tracks = tried(journey)
            told = some_track(journey)
            if tracks:
                self.assertIn(told, tracks)
            else:
                self.assertIsNone(told)
            many[len(tracks) > 0] = many.get(len(tracks) > 0, 0) + 1
        self.assertGreater(min(many.values()), 50)

    def test_track_through(self):
        many = {}
        for journey in random_journeys(1752, 300):
            sets, tracks = tried(journey)
            for k, states in enumerate(sets):
                for here in (states or []) + ([((1, 1, 5), 0), ((9, 9, 9), 9)] if states is not None else []):
                    told = track_through(journey, k, here)
                    through = [track for track in tracks if track[k] == here]
                    if through:
                        self.assertIn(told, through)
                    else:
                        self.assertIsNone(told)
                    many[len(through) > 0] = many.get(len(through) > 0, 0) + 1
        self.assertGreater(min(many.values()), 100)

    def test_fitting(self):
        rng = random.Random(1761)
        many = {}
        for journey in random_journeys(176, 400):
            _, tracks = tried(journey)
            times = [time for time, _ in journey.moments] + [rng.randint(-6, 13), rng.randint(-6, 13)]
            for time in times:
                axes = rng.sample(range(3), 3)
                point = ordered((rng.randint(-1, 6), rng.randint(-1, 2), 5), axes)
                found = [offset for offset in range(-4, 5)
                         if any(all(here is None or written_linked(journey, abs(time - moment[0]), here,
                                                                   (point, offset))
                                    for moment, here in zip(journey.moments, track)) for track in tracks)]
                self.assertEqual(fitting(journey, time, point, -4, 4), spans_of(found))
                many[len(found) > 0] = many.get(len(found) > 0, 0) + 1
        self.assertGreater(min(many.values()), 200)

    def test_a_kept_state_fits(self):
        """Point 17.6."""
        for journey in random_journeys(1762, 150):
            sets, told = tried(journey)[0], kept(journey)
            for k, (time, _) in enumerate(journey.moments):
                for point, offset in sets[k] or []:
                    is_kept = any(other == point and offset in offsets_of(spans) for other, spans in told[k])
                    self.assertEqual(fitting(journey, time, point, offset, offset), [(offset, offset)] * is_kept)

    def test_least_misses(self):
        many = {}
        for journey in random_journeys(1771, 300):
            misses = 0
            while not tried(journey, misses)[1]:
                misses += 1
            self.assertEqual(least_misses(journey), misses)
            many[misses] = many.get(misses, 0) + 1
        self.assertGreater(min(many[0], many[1], many[2]), 20)

    def test_moment_verdicts(self):
        many = {}
        for journey in random_journeys(177, 400):
            sets, tracks = tried(journey)
            expected = []
            for k, states in enumerate(sets):
                if states is None or not tracks:
                    expected.append("open")
                elif all(track[k] is not None for track in tracks):
                    expected.append("right")
                else:
                    expected.append("wrong" if all(track[k] is None for track in tracks) else "open")
            self.assertEqual(moment_verdicts(journey), expected)
            for word in expected:
                many[word] = many.get(word, 0) + 1
        self.assertGreater(min(many["right"], many["wrong"], many["open"]), 50)

    def test_a_tracker(self):
        """Point 17.9."""
        for journey in random_journeys(179, 200):
            tracker = Tracker(journey.speed, journey.drift, journey.misses)
            self.assertEqual(tracker.journey(), Journey([], journey.speed, journey.drift, journey.misses))
            for k, (time, problem) in enumerate(journey.moments):
                so_far = Journey(journey.moments[:k + 1], journey.speed, journey.drift, journey.misses)
                self.assertEqual(tracker.take(time, problem), kept(so_far)[k])
                self.assertEqual(tracker.journey(), so_far)


class KeptTest(unittest.TestCase):
    def test_no_moments(self):
        for misses in (0, 1, 5):
            journey = steady([], misses=misses)
            self.assertEqual([kept(journey), some_track(journey), least_misses(journey), moment_verdicts(journey)],
                             [[], [], 0, []])
            self.assertEqual(fitting(journey, 3, (999, -5, 0), -7, 9), [(-7, 9)])

    def test_open_moments_only(self):
        journey = steady([(0, None), (3, too_many()), (7, None)])
        self.assertEqual([kept(journey), some_track(journey)], [[None] * 3, [None] * 3])
        self.assertEqual([least_misses(journey), moment_verdicts(journey)], [0, ["open"] * 3])
        self.assertEqual(fitting(journey, 3, (5, 5, 5), 0, 4), [(0, 4)])

    def test_one_moment(self):
        for misses in (0, 1):
            journey = steady([(4, at_x(2, 1))], misses=misses)
            self.assertEqual(kept(journey), [[((x, 0, 0), [(0, 0)]) for x in (1, 2, 3)]])
            self.assertEqual(moment_verdicts(journey), ["open" if misses else "right"])
            self.assertEqual(track_through(journey, 0, state(3)), [state(3)])
            self.assertIsNone(track_through(journey, 0, state(4)))

    def test_open_moments_between(self):
        moments = [(0, at_x(2)), (1, None), (2, at_x(4, 3)), (3, too_many()), (4, at_x(5))]
        journey = steady(moments)
        self.assertEqual(kept(journey), [[((2, 0, 0), [(0, 0)])], None, [((3, 0, 0), [(0, 0)]), ((4, 0, 0), [(0, 0)])],
                                         None, [((5, 0, 0), [(0, 0)])]])
        self.assertEqual(track_through(journey, 2, state(3)), [state(2), None, state(3), None, state(5)])
        self.assertIsNone(track_through(journey, 2, state(5)))
        self.assertEqual(moment_verdicts(journey), ["right", "open", "right", "open", "right"])

    def test_misses(self):
        moments = [(0, at_x(0)), (1, at_x(8)), (2, at_x(2)), (3, at_x(7)), (4, at_x(4))]
        self.assertEqual(least_misses(steady(moments)), 2)
        for misses in (0, 1):
            journey = steady(moments, misses=misses)
            self.assertEqual([kept(journey), some_track(journey)], [[[]] * 5, None])
            self.assertEqual(moment_verdicts(journey), ["open"] * 5)
            self.assertIsNone(track_through(journey, 0, state(0)))
            self.assertEqual(fitting(journey, 2, (2, 0, 0), 0, 0), [])
        two = steady(moments, misses=2)
        self.assertEqual([[point for point, _ in states] for states in kept(two)],
                         [[(0, 0, 0)], [], [(2, 0, 0)], [], [(4, 0, 0)]])
        self.assertEqual(some_track(two), [state(0), None, state(2), None, state(4)])
        self.assertEqual(moment_verdicts(two), ["right", "wrong", "right", "wrong", "right"])
        three = steady(moments, misses=3)
        self.assertEqual(kept(three)[1], [((8, 0, 0), [(0, 0)])])
        self.assertEqual(moment_verdicts(three), ["open"] * 5)

    def test_not_more_known_moments_than_misses(self):
        moments = [(0, at_x(0)), (1, nowhere()), (2, None), (3, at_x(8))]
        for misses in (3, 4, 5):
            journey = steady(moments, misses=misses)
            self.assertEqual(kept(journey), [[((0, 0, 0), [(0, 0)])], [], None, [((8, 0, 0), [(0, 0)])]])
            self.assertTrue(is_track(journey, [None] * 4))
            self.assertEqual(moment_verdicts(journey), ["open", "wrong", "open", "open"])
            self.assertEqual(fitting(journey, 50, (-77, 5, 9), -1, 3), [(-1, 3)])
            self.assertEqual(track_through(journey, 3, state(8)), [None, None, None, state(8)])

    def test_a_known_moment_without_solutions(self):
        moments = [(0, at_x(3)), (1, nowhere()), (2, at_x(4))]
        self.assertEqual(kept(steady(moments)), [[], [], []])
        self.assertIsNone(some_track(steady(moments)))
        one = steady(moments, misses=1)
        self.assertEqual(kept(one), [[((3, 0, 0), [(0, 0)])], [], [((4, 0, 0), [(0, 0)])]])
        self.assertEqual(some_track(one), [state(3), None, state(4)])
        self.assertEqual(moment_verdicts(one), ["right", "wrong", "right"])

    def test_no_state_at_an_open_moment(self):
        journey = steady([(0, at_x(3)), (1, None), (2, too_many())])
        self.assertIsNone(track_through(journey, 1, state(3)))
        self.assertIsNone(track_through(journey, 2, state(3)))

    def test_more_misses_than_5(self):
        moments = [(k, at_x(8 * (k % 2))) for k in range(16)]
        self.assertEqual(least_misses(steady(moments, speed=0, misses=3)), 8)
        self.assertIsNone(some_track(steady(moments, speed=0, misses=5)))
        alone = [(k, nowhere()) for k in range(9)]
        self.assertEqual([least_misses(steady(alone[:many])) for many in (0, 1, 6, 9)], [0, 1, 6, 9])

    def test_offsets_that_are_kept_in_part(self):
        wide = at_x(4, 4, box=((4, 4), (0, 0), (0, 0)), least=-3, greatest=4)
        journey = Journey([(0, at_x(4, box=wide.box)), (3, wide), (9, wide)], 0, PARTS // 2, 0)
        self.assertEqual(kept(journey), [[((4, 0, 0), [(0, 0)])], [((4, 0, 0), [(-1, 1)])], [((4, 0, 0), [(-3, 4)])]])
        self.assertEqual(track_through(journey, 2, ((4, 0, 0), 4)),
                         [((4, 0, 0), 0), ((4, 0, 0), 1), ((4, 0, 0), 4)])


class FittingTest(unittest.TestCase):
    JOURNEY = Journey([(0, at_x(2)), (4, None), (8, at_x(6))], PARTS, PARTS // 2, 0)

    def fits(self, time, x, journey=JOURNEY):
        return fitting(journey, time, (x, 0, 0), -9, 9)

    def test_before_the_moments(self):
        self.assertEqual([self.fits(-3, x) for x in (-2, -1, 5, 6)], [[], [(-1, 1)], [(-1, 1)], []])
        self.assertEqual(self.fits(-1000, -500), [(-9, 9)])

    def test_at_the_moments(self):
        self.assertEqual([self.fits(0, x) for x in (1, 2, 3)], [[], [(0, 0)], []])
        self.assertEqual([self.fits(8, x) for x in (5, 6, 7)], [[], [(0, 0)], []])

    def test_between_the_moments(self):
        self.assertEqual([self.fits(4, x) for x in (1, 2, 4, 6, 7)], [[], [(-2, 2)], [(-2, 2)], [(-2, 2)], []])
        self.assertEqual([self.fits(1, x) for x in (0, 1, 3, 4)], [[], [(0, 0)], [(0, 0)], []])
        self.assertEqual([self.fits(6, x) for x in (3, 4, 8, 9)], [[], [(-1, 1)], [(-1, 1)], []])

    def test_behind_the_moments(self):
        self.assertEqual([self.fits(10, x) for x in (3, 4, 8, 9)], [[], [(-1, 1)], [(-1, 1)], []])
        self.assertEqual(fitting(self.JOURNEY, 10, (6, 2, -2), -9, 9), [(-1, 1)])
        self.assertEqual(fitting(self.JOURNEY, 10, (6, 3, 0), -9, 9), [])
        self.assertEqual(fitting(self.JOURNEY, 10, (6, 0, -3), -9, 9), [])

    def test_the_range_of_the_offsets(self):
        for least, greatest, told in [(0, 0, [(0, 0)]), (1, 3, [(1, 2)]), (3, 9, []), (-5, -2, [(-2, -2)])]:
            self.assertEqual(fitting(self.JOURNEY, 4, (4, 0, 0), least, greatest), told)

    def test_several_intervals(self):
        seen = [Observation(0, (0, 0, 0), 3, 0, 6)]
        journey = Journey([(0, Problem(seen, ((3, 3), (0, 0), (0, 0)), 0, 12, 0))], 0, PARTS // 4, 0)
        self.assertEqual(fitting(journey, 4, (3, 0, 0), -5, 20), [(-1, 1), (5, 7), (11, 13)])
        self.assertEqual(fitting(journey, 12, (3, 0, 0), -5, 20), [(-3, 15)])

    def test_misses_on_both_sides(self):
        moments = [(0, at_x(0)), (1, nowhere()), (9, nowhere()), (10, at_x(8))]
        for misses, told in [(0, []), (1, []), (2, [(-9, 9)])]:
            journey = Journey(moments, PARTS, 9 * PARTS, misses)
            self.assertEqual(fitting(journey, 5, (4, 0, 0), -9, 9), told)
            self.assertEqual(fitting(journey, 0, (0, 0, 0), 0, 0), [(0, 0)] if misses == 2 else [])
        three = Journey(moments, PARTS, 0, 3)
        self.assertEqual([self.fits(5, x, three) for x in (-6, -5, 13, 14)], [[], [(0, 0)], [(0, 0)], []])


class ReceiverTest(unittest.TestCase):
    def test_a_receiver_that_moves_within_the_speed_and_the_drift(self):
        """Point 17.8."""
        rng = random.Random(178)
        words = {"right": 0, "wrong": 0, "open": 0}
        for _ in range(60):
            speed, drift = rng.choice((PARTS, 2 * PARTS)), rng.choice((0, PARTS))
            times = sorted(rng.sample(range(40), 6))
            states, ahead = [], ((0, 0, 0), 0)
            for time in range(40):
                ahead = (tuple(at + rng.choice((-1, 0, 0, 1)) for at in ahead[0]),
                         ahead[1] + (rng.choice((-1, 0, 1)) if drift and time % 3 == 0 else 0))
                states.append(ahead)
            wrong = rng.sample(times, rng.randint(0, 2))
            moments = []
            for time in times:
                point, offset = states[time]
                beacons = [tuple(rng.randint(-30, 30) for _ in range(3)) for _ in range(3)]
                error = 25 if time in wrong else 0
                seen = [Observation(k, at, written_distance(at, point) + offset + (error if k == 0 else 0), 1, None)
                        for k, at in enumerate(beacons)]
                box = tuple((at - rng.randint(0, 3), at + rng.randint(0, 3)) for at in point)
                moments.append((time, Problem(seen, box, offset - 2, offset + 1, 0)))
            journey = Journey(moments, speed, drift, len(wrong) + rng.choice((0, 0, 1)))
            told, verdicts = kept(journey), moment_verdicts(journey)
            missed = [time for time, problem in moments if states[time] not in states_of(problem)]
            self.assertLessEqual(set(missed), set(wrong))
            for k, time in enumerate(times):
                words[verdicts[k]] += 1
                if time in missed:
                    self.assertNotEqual(verdicts[k], "right")
                else:
                    self.assertNotEqual(verdicts[k], "wrong")
                    point, offset = states[time]
                    self.assertTrue(any(other == point and offset in offsets_of(spans) for other, spans in told[k]))
            for time in (0, 17, 39):
                point, offset = states[time]
                self.assertEqual(fitting(journey, time, point, offset, offset), [(offset, offset)])
        self.assertGreater(min(words.values()), 10)


class ManyStatesTest(unittest.TestCase):
    def test_sets_with_many_points(self):
        """A sphere about the origin, and a receiver that came from one side of it."""
        side = ((-12, 12),) * 3
        sphere = Problem([Observation(0, (0, 0, 0), 6, 0, None)], side, -1, 1, 0)
        states = states_of(sphere)
        self.assertGreater(len(solutions(sphere)), 1000)
        start = Problem([], ((9, 9), (-2, 2), (1, 1)), 0, 0, 0)
        journey = Journey([(0, start), (8, sphere)], PARTS // 2, 0, 0)
        found = [here for here in states
                 if any(written_linked(journey, 8, first, here) for first in states_of(start))]
        self.assertEqual(kept(journey)[1], set_of(found))
        self.assertTrue(0 < len(found) < len(states))

    def test_2000_places_at_each_moment(self):
        moments = [(10 * k, Problem([], ((2 * k, 2 * k + 4), (0, 19), (0, 19)), 0, 30, 0)) for k in range(8)]
        slower = Journey(moments, PARTS // 10 + 1, PARTS, 2)
        self.assertIsNone(some_track(slower))
        self.assertEqual(moment_verdicts(slower), ["open"] * 8)
        self.assertEqual(least_misses(slower), 3)
        faster = Journey(moments, PARTS // 5 + 1, PARTS, 1)
        told = kept(faster)
        self.assertEqual([len(states) for states in told], [2000] * 8)
        self.assertEqual(told[7][-1], ((18, 19, 19), [(0, 30)]))


class TrackerTest(unittest.TestCase):
    def test_what_is_told(self):
        tracker = Tracker(PARTS, 0, 1)
        self.assertEqual(tracker.take(0, at_x(2, 1)), [((x, 0, 0), [(0, 0)]) for x in (1, 2, 3)])
        self.assertIsNone(tracker.take(1, None))
        self.assertEqual(tracker.take(2, at_x(6, 1)), [((x, 0, 0), [(0, 0)]) for x in (5, 6, 7)])
        self.assertIsNone(tracker.take(3, too_many()))
        self.assertEqual(tracker.take(4, at_x(8, 2)), [((x, 0, 0), [(0, 0)]) for x in (6, 7, 8)])
        self.assertEqual(tracker.take(5, nowhere()), [])
        self.assertEqual(tracker.take(6, at_x(8, 1)), [((x, 0, 0), [(0, 0)]) for x in (7, 8)])
        self.assertEqual([time for time, _ in tracker.journey().moments], list(range(7)))

    def test_what_was_told_may_be_changed(self):
        tracker = Tracker(0, 0, 0)
        told = tracker.take(0, at_x(2, 1))
        told[0][1].append((9, 9))
        told.pop()
        tracker.journey().moments.pop()
        self.assertEqual(tracker.take(1, at_x(2, 1)), [((x, 0, 0), [(0, 0)]) for x in (1, 2, 3)])
        self.assertEqual(len(tracker.journey().moments), 2)

    def test_two_trackers(self):
        first, second = Tracker(0, 0, 0), Tracker(0, 0, 0)
        first.take(0, at_x(2))
        self.assertEqual(second.take(0, at_x(5)), [((5, 0, 0), [(0, 0)])])
        self.assertEqual(first.take(1, at_x(5)), [])


class UnchangedTest(unittest.TestCase):
    def test_the_arguments_are_as_before(self):
        for journey in random_journeys(170, 40):
            before = copy.deepcopy(journey)
            for states in kept(journey) + [solutions(problem) for _, problem in journey.moments]:
                if states:
                    states[0][1].append((99, 99))
                    states.append("x")
            track = some_track(journey)
            if track is not None:
                is_track(journey, track)
                again = list(track)
                is_track(journey, track)
                self.assertEqual(track, again)
            least_misses(journey)
            moment_verdicts(journey).append("x")
            fitting(journey, 2, (1, 1, 5), -3, 3).append((99, 99))
            self.assertEqual(journey, before)

    def test_what_is_told_is_new(self):
        problem = at_x(2, 1)
        journey = steady([(0, problem), (1, problem)])
        told = kept(journey)
        for states in told:
            for _, spans in states:
                spans.append((99, 99))
        self.assertEqual(told[0], [((x, 0, 0), [(0, 0), (99, 99)]) for x in (1, 2, 3)])
        self.assertEqual(told[1], told[0])
        self.assertEqual(points_of(LINE)[0], (0, 0, 0))


if __name__ == "__main__":
    unittest.main()
