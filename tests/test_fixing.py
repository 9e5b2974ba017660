import copy
import random
import unittest

from helpers import offsets_of, points_of, random_problem, served_by, set_of, spans_of, states_of, written_distance, \
    written_holds
from rangekeep.errors import TooMany
from rangekeep.fixing import Problem, is_solution, offsets_at, places, reach, rows, senders, tree
from rangekeep.offsets import Observation

TOP = 1000000


def written_rows(problem, box):
    """Point 14.3: the intervals of each sender, by trying all offsets and all distances."""
    told = []
    for sender in sorted({one.sender for one in problem.observations}):
        offsets = list(range(problem.least, problem.greatest + 1))
        for one in problem.observations:
            if one.sender == sender:
                squares = [sum((a - b) ** 2 for a, b in zip(point, one.point)) for point in points_of(box)]
                near, far = [int(square ** 0.5) for square in (min(squares), max(squares))]
                offsets = [offset for offset in offsets
                           if any(written_holds(one, at, offset) for at in range(near, far + 1))]
        told.append(spans_of(offsets))
    return told


def written_tree(problem, box):
    """Point 14.5."""
    spans = written_rows(problem, box)
    offsets = range(problem.least, problem.greatest + 1)
    if max(sum(offset in offsets_of(row) for row in spans) for offset in offsets) < len(spans) - problem.faults:
        return ("out",)
    sizes = [high - low for low, high in box]
    if max(sizes) == 0:
        return ("place",)
    axis = sizes.index(max(sizes))
    at = (box[axis][0] + box[axis][1]) // 2
    first, second = [tuple(part if k == axis else side for k, side in enumerate(box))
                     for part in ((box[axis][0], at), (at + 1, box[axis][1]))]
    return ("cut", axis, at, written_tree(problem, first), written_tree(problem, second))


def parts_of(rng, box):
    """A box that lies in another one."""
    told = []
    for low, high in box:
        low = rng.randint(low, high)
        told.append((low, rng.randint(low, high)))
    return tuple(told)


def problems(seed, many, **bounds):
    rng = random.Random(seed)
    return [random_problem(rng, **bounds) for _ in range(many)]


LINE = ((0, 8), (0, 0), (0, 0))
SEEN = [Observation(0, (0, 0, 0), 5, 0, None), Observation(1, (8, 0, 0), 3, 0, None)]


class ProblemTest(unittest.TestCase):
    def make(self, **changed):
        told = {"observations": SEEN, "box": LINE, "least": -1, "greatest": 4, "faults": 1}
        told.update(changed)
        return Problem(**told)

    def test_the_attributes(self):
        problem = Problem(SEEN, LINE, -1, 4, 1)
        self.assertEqual((problem.observations, problem.box), (SEEN, LINE))
        self.assertEqual((problem.least, problem.greatest, problem.faults), (-1, 4, 1))

    def test_the_list_is_copied(self):
        seen = list(SEEN)
        problem = self.make(observations=seen)
        seen.pop()
        self.assertEqual(problem, self.make())

    def test_equal_attributes(self):
        same = [Observation(0, (0, 0, 0), 5, 0, None), Observation(1, (8, 0, 0), 3, 0, None)]
        self.assertTrue(self.make() == self.make(observations=same))
        self.assertFalse(self.make() != self.make(observations=same))

    def test_one_attribute_that_differs(self):
        for name, other in [("observations", SEEN[:1]), ("observations", SEEN[::-1]),
                            ("box", ((0, 8), (0, 0), (0, 1))), ("least", 0), ("greatest", 5), ("faults", 0)]:
            with self.subTest(name):
                self.assertFalse(self.make() == self.make(**{name: other}))
                self.assertTrue(self.make() != self.make(**{name: other}))

    def test_values_of_another_kind(self):
        for other in [None, 1, (SEEN, LINE, -1, 4, 1), "x", SEEN, object()]:
            self.assertFalse(self.make() == other)
            self.assertFalse(other == self.make())
            self.assertTrue(self.make() != other)


class RowsTest(unittest.TestCase):
    def test_senders(self):
        seen = [Observation(sender, (0, 0, 0), 5, 0, None) for sender in (7, 2, 7, 0, 2, 11)]
        self.assertEqual(senders(Problem(seen, LINE, 0, 0, 0)), [0, 2, 7, 11])
        self.assertEqual(senders(Problem([], LINE, 0, 0, 0)), [])

    def test_the_order_of_the_rows(self):
        seen = [Observation(9, (0, 0, 0), 5, 0, None), Observation(1, (0, 0, 0), 6, 0, None),
                Observation(4, (0, 0, 0), 99, 0, None), Observation(9, (0, 0, 0), 6, 1, None)]
        problem = Problem(seen, LINE, -20, 20, 0)
        self.assertEqual(rows(problem, ((2, 2), (0, 0), (0, 0))), [[(4, 4)], [], [(3, 3)]])
        self.assertEqual(rows(problem, ((1, 3), (0, 0), (0, 0))), [[(3, 5)], [], [(2, 4)]])
        self.assertEqual([reach(problem, ((2, 2), (0, 0), (0, 0))), reach(problem, ((1, 3), (0, 0), (0, 0)))], [1, 2])

    def test_no_observations(self):
        problem = Problem([], LINE, 0, 3, 0)
        self.assertEqual([rows(problem, LINE), reach(problem, LINE)], [[], 0])

    def test_against_trying(self):
        rng = random.Random(143)
        for problem in problems(1431, 150):
            for box in [problem.box] + [parts_of(rng, problem.box) for _ in range(3)]:
                expected = written_rows(problem, box)
                self.assertEqual(rows(problem, box), expected)
                self.assertEqual(reach(problem, box),
                                 max(sum(offset in offsets_of(row) for row in expected)
                                     for offset in range(problem.least, problem.greatest + 1)))

    def test_a_reach_that_is_too_small(self):
        rng = random.Random(1432)
        many = 0
        for problem in problems(1433, 150):
            solved = {point for point, _ in states_of(problem)}
            for box in [parts_of(rng, problem.box) for _ in range(4)] + [((x, x), (y, y), (z, z)) for x, y, z in
                                                                         points_of(problem.box)]:
                is_small = reach(problem, box) < len(senders(problem)) - problem.faults
                if is_small:
                    self.assertFalse(solved & set(points_of(box)))
                    many += 1
                elif len(points_of(box)) == 1:
                    self.assertTrue(solved & set(points_of(box)))
        self.assertGreater(many, 100)


class SolutionTest(unittest.TestCase):
    def test_against_trying(self):
        for problem in problems(142, 150):
            solved = states_of(problem)
            for point in points_of(problem.box):
                offsets = [offset for offset in range(problem.least, problem.greatest + 1)
                           if is_solution(problem, point, offset)]
                self.assertEqual(offsets, [offset for other, offset in solved if other == point])
                self.assertEqual(offsets_at(problem, point), spans_of(offsets))

    def test_truth_values(self):
        problem = Problem(SEEN, LINE, 0, 0, 0)
        self.assertIs(is_solution(problem, (5, 0, 0), 0), True)
        self.assertIs(is_solution(problem, (4, 0, 0), 0), False)

    def test_a_sender_with_several_observations_lies_once(self):
        seen = SEEN + [Observation(2, (0, 0, 0), reading, 0, None) for reading in (90, 91, 92)]
        self.assertEqual(places(Problem(seen, LINE, 0, 0, 1)), [(5, 0, 0)])
        self.assertEqual(places(Problem(seen, LINE, 0, 0, 0)), [])
        # One observation that does not hold is enough.
        seen = SEEN + [Observation(1, (8, 0, 0), 4, 0, None)]
        self.assertEqual(places(Problem(seen, LINE, 0, 0, 0)), [])

    def test_as_many_faults_as_senders_and_more(self):
        for faults in (2, 3):
            problem = Problem(SEEN, LINE, -2, 2, faults)
            self.assertEqual(places(problem), [(x, 0, 0) for x in range(9)])
            self.assertEqual(offsets_at(problem, (8, 0, 0)), [(-2, 2)])
            self.assertIs(is_solution(problem, (8, 0, 0), -2), True)

    def test_no_observations(self):
        problem = Problem([], ((0, 1), (5, 5), (-1, 0)), -2, 2, 0)
        self.assertEqual(places(problem), [(0, 5, -1), (0, 5, 0), (1, 5, -1), (1, 5, 0)])
        self.assertEqual(offsets_at(problem, (0, 5, 0)), [(-2, 2)])
        self.assertIs(is_solution(problem, (0, 5, 0), 2), True)


class PlacesTest(unittest.TestCase):
    def test_against_trying(self):
        found = {}
        for problem in problems(141, 400):
            expected = sorted({point for point, _ in states_of(problem)})
            self.assertEqual(places(problem), expected)
            kind = (problem.faults, len(senders(problem)), len(expected) > 0)
            found[kind] = found.get(kind, 0) + 1
        for faults in (0, 1, 2):
            for many in (2, 3, 4):
                self.assertGreater(found[faults, many, True], 0)
        self.assertGreater(found[0, 3, False], 0)

    def test_larger_boxes(self):
        for problem in problems(1411, 25, side=7):
            self.assertEqual([(point, offsets_at(problem, point)) for point in places(problem)],
                             set_of(states_of(problem)))

    def test_places_are_ascending(self):
        told = places(Problem([], ((-1, 2), (-3, 9), (4, 6)), 0, 0, 0))
        self.assertEqual(told, points_of(((-1, 2), (-3, 9), (4, 6))))

    def test_the_whole_box(self):
        """A place among 8 * 10 ** 18, with a sender that lies."""
        true, offset = (123456, -98765, 4321), 777
        beacons = [(900000, 0, 100), (-300, 800000, 5), (1000, -200, 700000), (-600000, -600000, 0),
                   (400000, 400000, 400000), (-9, -9, -999999)]
        seen = [Observation(k, at, written_distance(at, true) + offset, 0, None) for k, at in enumerate(beacons)]
        seen[2] = Observation(2, beacons[2], 500000, 0, None)
        box = ((-TOP, TOP),) * 3
        told = places(Problem(seen, box, -100000, 100000, 1))
        self.assertIn(true, told)
        self.assertLess(len(told), 20)
        self.assertEqual(places(Problem(seen, box, -100000, 100000, 0)), [])

    def check_too_many(self, problem):
        for call in (places, tree):
            with self.assertRaises(TooMany) as caught:
                call(problem)
            self.assertEqual(caught.exception.place, 2000)

    def test_2000_places_and_2001(self):
        self.assertEqual(places(Problem([], ((1, 2000), (0, 0), (0, 0)), 0, 0, 0)),
                         [(x, 0, 0) for x in range(1, 2001)])
        self.check_too_many(Problem([], ((0, 2000), (0, 0), (0, 0)), 0, 0, 0))
        near = Observation(4, (0, 0, 0), 1000, 999, None)
        self.assertEqual(len(places(Problem([near], ((0, 4000), (7, 7), (0, 0)), 0, 0, 0))), 2000)
        self.check_too_many(Problem([near], ((0, 4000), (7, 7), (0, 0)), -1, 0, 0))
        self.assertEqual(tree(Problem([near], ((0, 4000), (7, 7), (0, 0)), 0, 0, 0))[:3], ("cut", 0, 2000))

    def test_very_many_places(self):
        self.check_too_many(Problem([], ((-TOP, TOP),) * 3, 0, 0, 0))
        self.check_too_many(Problem(SEEN, ((-TOP, TOP),) * 3, 0, 0, 2))
        self.check_too_many(Problem([Observation(0, (0, 0, 0), 99999, 0, None)], ((-TOP, TOP),) * 3, 0, 0, 0))


class TreeTest(unittest.TestCase):
    def test_some_trees(self):
        self.assertEqual(tree(Problem(SEEN, LINE, 0, 0, 0)),
                         ("cut", 0, 4, ("out",),
                          ("cut", 0, 6, ("cut", 0, 5, ("place",), ("out",)), ("out",))))
        self.assertEqual(tree(Problem(SEEN, ((3, 4), (0, 0), (0, 0)), 0, 0, 0)), ("out",))
        self.assertEqual(tree(Problem(SEEN, ((5, 5), (0, 0), (0, 0)), 0, 0, 0)), ("place",))
        self.assertEqual(tree(Problem([], ((5, 5), (-3, -2), (0, 1)), 0, 0, 0)),
                         ("cut", 1, -3, ("cut", 2, 0, ("place",), ("place",)), ("cut", 2, 0, ("place",), ("place",))))

    def test_against_trying(self):
        kinds = {}
        for problem in problems(145, 150):
            told = tree(problem)
            self.assertEqual(told, written_tree(problem, problem.box))
            kinds[told[0]] = kinds.get(told[0], 0) + 1
        self.assertGreater(min(kinds["out"], kinds["cut"]), 20)


class UnchangedTest(unittest.TestCase):
    def test_the_problem_is_as_before(self):
        for problem in problems(140, 30):
            before = copy.deepcopy(problem)
            senders(problem).append(99)
            rows(problem, problem.box).append([])
            reach(problem, problem.box)
            places(problem).append((9, 9, 9))
            tree(problem)
            for point in points_of(problem.box):
                offsets_at(problem, point).append((99, 99))
                is_solution(problem, point, problem.least)
            self.assertEqual(problem, before)
            self.assertEqual(len(served_by(problem, points_of(problem.box)[0], 0)), len(senders(problem)))


if __name__ == "__main__":
    unittest.main()
