import copy
import random
import unittest
from itertools import product

from helpers import offsets_of, spans_of, written_holds
from rangekeep.offsets import Observation, at_least, common, deepest, holds, possible


def random_spans(rng, size):
    return spans_of([offset for offset in range(-size, size + 1) if rng.random() < rng.choice((0.2, 0.5, 0.8))])


def observation(reading, slack, modulus):
    return Observation(0, (0, 0, 0), reading, slack, modulus)


class ObservationTest(unittest.TestCase):
    def make(self, **changed):
        told = {"sender": 2, "point": (1, 2, 3), "reading": -4, "slack": 5, "modulus": 7}
        told.update(changed)
        return Observation(**told)

    def test_the_attributes(self):
        one = Observation(2, (1, 2, 3), -4, 5, None)
        self.assertEqual((one.sender, one.point, one.reading, one.slack, one.modulus), (2, (1, 2, 3), -4, 5, None))
        self.assertEqual(self.make().modulus, 7)

    def test_equal_attributes(self):
        self.assertTrue(self.make() == self.make())
        self.assertFalse(self.make() != self.make())

    def test_one_attribute_that_differs(self):
        for name, other in [("sender", 3), ("point", (1, 2, 4)), ("reading", 4), ("slack", 0), ("modulus", None),
                            ("modulus", 8)]:
            with self.subTest(name):
                self.assertFalse(self.make() == self.make(**{name: other}))
                self.assertTrue(self.make() != self.make(**{name: other}))

    def test_values_of_another_kind(self):
        for other in [None, 2, (2, (1, 2, 3), -4, 5, 7), "x", [], object()]:
            self.assertFalse(self.make() == other)
            self.assertFalse(other == self.make())
            self.assertTrue(self.make() != other)


class HoldsTest(unittest.TestCase):
    def check(self, one, far, held, missed):
        for offset in held:
            self.assertIs(holds(one, far, offset), True)
        for offset in missed:
            self.assertIs(holds(one, far, offset), False)

    def test_just_at_the_slack_and_one_beyond(self):
        self.check(observation(20, 0, None), 15, (5,), (4, 6))
        self.check(observation(20, 3, None), 15, (2, 5, 8), (1, 9))
        self.check(observation(-20, 3, None), 15, (-38, -35, -32), (-39, -31, 35))

    def test_with_a_modulus(self):
        self.check(observation(20, 0, 10), 15, (5, 15, -5, 1005), (4, 6, 10))
        self.check(observation(23, 2, 10), 0, (21, 25, 1, 5, -9, -5), (20, 26, 0, 6, -10, -4))
        self.check(observation(-23, 2, 10), 0, (-25, -21, 5, 9), (-26, -20, 4, 10))

    def test_a_nearer_number_of_the_same_remainder(self):
        self.check(observation(9, 1, 10), 0, (0, 10, -2, -1, 8, 9), (1, -3, 7, 11))
        self.check(observation(1, 1, 10), 0, (0, 10, 12, -10), (9, 13))

    def test_a_modulus_of_1_and_slacks_about_its_half(self):
        self.check(observation(7, 0, 1), 3, range(-9, 9), ())
        self.check(observation(7, 2, 5), 3, range(-9, 9), ())
        self.check(observation(7, 2, 6), 0, (5, 6, 7, 8, 9, 11), (4, 10))
        self.check(observation(7, 3, 6), 0, range(-9, 9), ())

    def test_against_trying(self):
        rng = random.Random(131)
        for _ in range(4000):
            one = observation(rng.randint(-40, 40), rng.randint(0, 5), rng.choice((None, 1, 2, 5, 9, 30)))
            far, offset = rng.randint(0, 30), rng.randint(-60, 60)
            self.assertIs(holds(one, far, offset), written_holds(one, far, offset))


class PossibleTest(unittest.TestCase):
    def check(self, one, span, least, greatest):
        near, far = span
        expected = [offset for offset in range(least, greatest + 1)
                    if any(written_holds(one, at, offset) for at in range(near, far + 1))]
        self.assertEqual(possible(one, span, least, greatest), spans_of(expected))

    def test_all_short_cases(self):
        for modulus in (None, 1, 2, 3, 4, 7):
            for reading, slack, far in product((-5, -1, 0, 4), (0, 1, 2), (0, 1, 3)):
                for least, many in product((-8, -7, 0, 3), (0, 1, 12)):
                    self.check(observation(reading, slack, modulus), (2, 2 + far), least, least + many)

    def test_any_cases(self):
        rng = random.Random(132)
        for _ in range(500):
            near, least = rng.randint(0, 20), rng.randint(-40, 30)
            one = observation(rng.randint(-60, 60), rng.randint(0, 3), rng.choice((None, None, 5, 11, 12, 50)))
            self.check(one, (near, near + rng.randint(0, 6)), least, least + rng.randint(0, 60))

    def test_intervals_that_touch_or_overlap_come_as_one(self):
        # Each number of the remainder gives as many offsets as the modulus, or one more or less.
        self.assertEqual(possible(observation(0, 1, 6), (0, 2), -9, 9), [(-9, -5), (-3, 1), (3, 7), (9, 9)])
        self.assertEqual(possible(observation(0, 1, 5), (0, 2), -9, 9), [(-9, 9)])
        self.assertEqual(possible(observation(0, 1, 4), (0, 2), -9, 9), [(-9, 9)])

    def test_none_is_possible(self):
        self.assertEqual(possible(observation(50, 1, None), (0, 2), -9, 9), [])
        self.assertEqual(possible(observation(-50, 1, None), (0, 2), -9, 9), [])
        self.assertEqual(possible(observation(10, 1, 20), (0, 2), 12, 26), [])

    def test_a_range_of_one_offset(self):
        self.assertEqual(possible(observation(5, 0, None), (2, 2), 3, 3), [(3, 3)])
        self.assertEqual(possible(observation(5, 0, None), (2, 2), 4, 4), [])
        self.assertEqual(possible(observation(5, 0, 7), (2, 2), -11, -11), [(-11, -11)])
        self.assertEqual(possible(observation(5, 0, 7), (2, 2), -10, -10), [])

    def test_a_span_of_one_distance(self):
        rng = random.Random(1321)
        for _ in range(300):
            one = observation(rng.randint(-30, 30), rng.randint(0, 3), rng.choice((None, 3, 8)))
            far = rng.randint(0, 9)
            self.assertEqual(possible(one, (far, far), -25, 25),
                             spans_of([offset for offset in range(-25, 26) if holds(one, far, offset)]))

    def test_a_great_range_without_a_modulus(self):
        self.assertEqual(possible(observation(0, 2, None), (1, 9), -10 ** 15, 10 ** 15), [(-11, 1)])


class CommonTest(unittest.TestCase):
    def check(self, first, second):
        both = [offset for offset in offsets_of(first) if offset in offsets_of(second)]
        self.assertEqual(common(first, second), spans_of(both))
        self.assertEqual(common(second, first), spans_of(both))

    def test_empty_lists(self):
        self.assertEqual([common([], []), common([(1, 4)], []), common([], [(1, 4)])], [[], [], []])

    def test_intervals_that_touch_and_that_overlap(self):
        self.check([(1, 4)], [(5, 9)])
        self.check([(1, 4)], [(4, 9)])
        self.check([(1, 4)], [(2, 3)])
        self.check([(1, 4)], [(1, 4)])
        self.check([(1, 4), (6, 9)], [(5, 5)])
        self.check([(1, 4), (6, 9)], [(4, 6)])
        self.check([(1, 4), (6, 9)], [(0, 10)])
        self.check([(1, 4), (6, 9), (20, 21)], [(3, 7), (9, 20)])

    def test_any_lists(self):
        rng = random.Random(133)
        for _ in range(300):
            self.check(random_spans(rng, 12), random_spans(rng, 12))

    def test_the_list_is_new(self):
        first = [(1, 4)]
        told = common(first, first)
        told.append((9, 9))
        self.assertEqual(first, [(1, 4)])


class DepthTest(unittest.TestCase):
    def check(self, rows):
        offsets = sorted({offset for spans in rows for offset in offsets_of(spans)})
        depths = {offset: sum(offset in offsets_of(spans) for spans in rows) for offset in offsets}
        greatest = max(depths.values(), default=0)
        least = min([offset for offset in offsets if depths[offset] == greatest], default=None)
        self.assertEqual(deepest(rows), (greatest, least))
        for depth in range(1, len(rows) + 2):
            self.assertEqual(at_least(rows, depth), spans_of([at for at in offsets if depths[at] >= depth]))

    def test_no_lists_and_empty_lists(self):
        self.assertEqual([deepest([]), deepest([[]]), deepest([[], []])], [(0, None)] * 3)
        self.assertEqual([at_least([], 1), at_least([[]], 1), at_least([[], []], 2)], [[], [], []])
        self.assertEqual(deepest([[], [(3, 4)], []]), (1, 3))

    def test_the_least_of_several_deepest_offsets(self):
        self.assertEqual(deepest([[(5, 9), (20, 30)], [(7, 8), (25, 26)]]), (2, 7))
        self.assertEqual(deepest([[(5, 9)], [(-3, 2)]]), (1, -3))
        self.assertEqual(deepest([[(1, 3)], [(3, 5)], [(5, 6)]]), (2, 3))

    def test_lists_that_touch_come_as_one(self):
        self.assertEqual(at_least([[(1, 3)], [(4, 6)]], 1), [(1, 6)])
        self.assertEqual(at_least([[(1, 3)], [(5, 6)]], 1), [(1, 3), (5, 6)])
        self.assertEqual(at_least([[(1, 3)], [(4, 6)], [(2, 5)]], 2), [(2, 5)])
        self.assertEqual(at_least([[(1, 3)], [(4, 6)], [(3, 4)], [(3, 3)]], 3), [(3, 3)])
        self.assertEqual(deepest([[(1, 3)], [(4, 6)]]), (1, 1))

    def test_each_depth(self):
        rows = [[(0, 10)], [(2, 4), (6, 8)], [(4, 6)], [(4, 4), (10, 12)]]
        self.assertEqual([at_least(rows, depth) for depth in (1, 2, 3, 4, 5)],
                         [[(0, 12)], [(2, 8), (10, 10)], [(4, 4), (6, 6)], [(4, 4)], []])
        self.check(rows)

    def test_any_lists(self):
        rng = random.Random(134)
        for _ in range(300):
            self.check([random_spans(rng, 10) for _ in range(rng.randint(0, 5))])


class UnchangedTest(unittest.TestCase):
    def test_the_arguments_are_as_before(self):
        rng = random.Random(13)
        for _ in range(50):
            rows = [random_spans(rng, 9) for _ in range(3)]
            before = copy.deepcopy(rows)
            common(rows[0], rows[1])
            deepest(rows)
            at_least(rows, 1).append((99, 99))
            at_least(rows[:1], 1).append((99, 99))
            self.assertEqual(rows, before)
        one = observation(4, 1, 7)
        holds(one, 3, 4)
        possible(one, (1, 2), 0, 9)
        self.assertEqual(one, observation(4, 1, 7))


if __name__ == "__main__":
    unittest.main()
