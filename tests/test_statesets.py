import copy
import random
import unittest

from helpers import offsets_of, random_box, random_point, spans_of
from rangekeep.statesets import both, box_tree, either, near_offsets, near_state, search_tree


def random_set(rng, size=3, many=12):
    """A set of states about the origin."""
    points = sorted({random_point(rng, size) for _ in range(rng.randint(0, many))})
    told = []
    for point in points:
        offsets = [offset for offset in range(-8, 9) if rng.random() < rng.choice((0.1, 0.4, 0.9))]
        if offsets:
            told.append((point, spans_of(offsets)))
    return told


def states_in(states):
    return [(point, offset) for point, spans in states for offset in offsets_of(spans)]


class SetsTest(unittest.TestCase):
    def check(self, told, states):
        self.assertEqual(states_in(told), sorted(states))
        self.assertEqual([point for point, _ in told], sorted({point for point, _ in states}))
        for _, spans in told:
            self.assertEqual(spans, spans_of(offsets_of(spans)))

    def test_either(self):
        rng = random.Random(1)
        self.check(either([]), [])
        self.check(either([[], []]), [])
        for _ in range(100):
            sets = [random_set(rng, 1) for _ in range(rng.randint(1, 4))]
            self.check(either(sets), {state for states in sets for state in states_in(states)})

    def test_both(self):
        rng = random.Random(2)
        for _ in range(200):
            first, second = random_set(rng, 1), random_set(rng, 1)
            self.check(both(first, second), set(states_in(first)) & set(states_in(second)))

    def test_the_sets_are_as_before(self):
        rng = random.Random(3)
        for _ in range(30):
            first, second = random_set(rng, 1), random_set(rng, 1)
            before = copy.deepcopy([first, second])
            told = either([first]) + both(first, second)
            for _, spans in told:
                spans.append((99, 99))
            search_tree(first)
            self.assertEqual([first, second], before)


class NearTest(unittest.TestCase):
    def test_near_state(self):
        rng = random.Random(4)
        found = {}
        for _ in range(1500):
            states = random_set(rng)
            point, offset = random_point(rng, 4), rng.randint(-10, 10)
            far, apart = rng.randint(0, 3), rng.randint(0, 2)
            near = [(other, b) for other, b in states_in(states)
                    if max(abs(x - y) for x, y in zip(point, other)) <= far and abs(b - offset) <= apart]
            told = near_state(states, (point, offset), far, apart)
            if near:
                self.assertIn(told, near)
            else:
                self.assertIsNone(told)
            found[len(near) > 0] = found.get(len(near) > 0, 0) + 1
        self.assertGreater(min(found.values()), 200)

    def test_near_offsets(self):
        rng = random.Random(5)
        found = {}
        for _ in range(1500):
            states = random_set(rng, rng.choice((1, 3, 9)), rng.choice((2, 12, 60)))
            tree = search_tree(states)
            if tree is None:
                self.assertEqual(states, [])
                continue
            window, apart = random_box(rng, 4, rng.choice((0, 2, 9))), rng.choice((0, 0, 1, 3))
            wanted = [offset for offset in range(-12, 13) if rng.random() < rng.choice((0.3, 0.9))]
            near = [b for other, b in states_in(states)
                    if all(low <= at <= high for (low, high), at in zip(window, other))]
            expected = [offset for offset in wanted if any(abs(offset - b) <= apart for b in near)]
            self.assertEqual(near_offsets(tree, window, apart, spans_of(wanted)), spans_of(expected))
            found[len(expected) > 0] = found.get(len(expected) > 0, 0) + 1
        self.assertGreater(min(found.values()), 90)

    def test_intervals_that_touch_when_they_are_widened(self):
        here = ((0, 0),) * 3
        for offsets, told in [([(0, 0), (3, 3)], [(-1, 4)]), ([(0, 0), (4, 4)], [(-1, 1), (3, 5)]),
                              ([(0, 0), (2, 2), (5, 6)], [(-1, 7)]), ([(0, 0), (9, 9), (11, 12)], [(-1, 1), (8, 13)])]:
            self.assertEqual(near_offsets(search_tree([((0, 0, 0), offsets)]), here, 1, [(-9, 19)]), told)

    def test_boxes(self):
        rng = random.Random(6)
        found = {}
        for _ in range(1500):
            rows = {}
            for _ in range(rng.choice((1, 3, 20))):
                rows[random_box(rng, rng.choice((2, 9)), rng.choice((0, 2, 9)))] = spans_of(
                    [offset for offset in range(-8, 9) if rng.random() < rng.choice((0.1, 0.5))] or [0])
            window, apart = random_box(rng, 6, rng.choice((0, 2, 9))), rng.choice((0, 0, 1, 3))
            wanted = [offset for offset in range(-12, 13) if rng.random() < rng.choice((0.3, 0.9))]
            near = [b for box, spans in rows.items() for b in offsets_of(spans)
                    if all(max(low, first) <= min(high, last) for (low, high), (first, last) in zip(window, box))]
            expected = [offset for offset in wanted if any(abs(offset - b) <= apart for b in near)]
            tree = box_tree(list(rows.items()))
            self.assertEqual(near_offsets(tree, window, apart, spans_of(wanted)), spans_of(expected))
            found[len(expected) > 0] = found.get(len(expected) > 0, 0) + 1
        self.assertGreater(min(found.values()), 200)
        self.assertIsNone(box_tree([]))

    def test_boxes_with_the_same_middle_in_many_copies(self):
        rows = [(((-k, k), (0, 0), (0, 0)), [(k, k)]) for k in range(3000)]
        tree = box_tree(rows)
        self.assertEqual(near_offsets(tree, ((2990, 2995), (0, 0), (0, 0)), 0, [(0, 9999)]), [(2990, 2999)])
        self.assertEqual(near_offsets(tree, ((-7, -7), (0, 0), (0, 0)), 0, [(0, 9)]), [(7, 9)])

    def test_the_tree_of_one_state_and_of_many_points(self):
        self.assertIsNone(search_tree([]))
        self.assertEqual(search_tree([((1, -2, 3), [(4, 5)])]), (((1, 1), (-2, -2), (3, 3)), [(4, 5)], ()))
        row = [((x, 0, 0), [(x, x)]) for x in range(0, 2000000, 1000)]
        tree = search_tree(row)
        self.assertEqual(tree[0], ((0, 1999000), (0, 0), (0, 0)))
        self.assertEqual(near_offsets(tree, ((500, 3500), (0, 0), (-9, 9)), 0, [(0, 10 ** 7)]),
                         [(1000, 1000), (2000, 2000), (3000, 3000)])


if __name__ == "__main__":
    unittest.main()
