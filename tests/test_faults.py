import copy
import random
import unittest

from helpers import all_states, points_of, random_problem, served_by, states_of, written_distance
from rangekeep.errors import TooMany
from rangekeep.faults import extent, least_faults, verdicts
from rangekeep.fixing import Problem, is_solution, senders
from rangekeep.offsets import Observation, holds

TOP = 1000000
LINE = ((0, 8), (0, 0), (0, 0))


def written_verdicts(problem):
    """Point 15.1."""
    served = [served_by(problem, point, offset) for point, offset in states_of(problem)]
    told = []
    for sender in sorted({one.sender for one in problem.observations}):
        if served and all(row[sender] for row in served):
            told.append("right")
        elif served and not any(row[sender] for row in served):
            told.append("wrong")
        else:
            told.append("open")
    return told


def written_least(problem):
    """Point 15.2."""
    return min(list(served_by(problem, point, offset).values()).count(False) for point, offset in all_states(problem))


def problems(seed, many, **bounds):
    rng = random.Random(seed)
    return [random_problem(rng, **bounds) for _ in range(many)]


def seen_at(*ranges):
    """Observations of senders at both ends of the line, and at one more place: (place, range)."""
    return [Observation(k, (at, 0, 0), far, 0, None) for k, (at, far) in enumerate(ranges)]


class VerdictsTest(unittest.TestCase):
    def test_right_wrong_and_open(self):
        seen = seen_at((0, 5), (8, 3), (0, 7))
        self.assertEqual(verdicts(Problem(seen, LINE, 0, 0, 1)), ["right", "right", "wrong"])
        self.assertEqual(verdicts(Problem(seen, LINE, 0, 0, 2)), ["open", "open", "open"])
        self.assertEqual(verdicts(Problem(seen, LINE, 0, 0, 0)), ["open", "open", "open"])
        self.assertEqual(verdicts(Problem(seen[:2], LINE, 0, 0, 0)), ["right", "right"])

    def test_the_order_is_that_of_the_senders(self):
        seen = [Observation(9, (0, 0, 0), 5, 0, None), Observation(2, (0, 0, 0), 7, 0, None),
                Observation(4, (8, 0, 0), 3, 0, None)]
        self.assertEqual(verdicts(Problem(seen, LINE, 0, 0, 1)), ["wrong", "right", "right"])

    def test_no_senders(self):
        self.assertEqual(verdicts(Problem([], LINE, 0, 0, 0)), [])

    def test_one_offset_at_one_place_is_enough_for_open(self):
        # At the offset 0 the places 4 and 5 serve sender 0, and 4 serves sender 1; other offsets serve no two.
        seen = [Observation(0, (0, 0, 0), 4, 0, None), Observation(1, (8, 0, 0), 4, 0, None),
                Observation(2, (0, 0, 0), 4, 1, None)]
        self.assertEqual(verdicts(Problem(seen, ((4, 4), (0, 0), (0, 0)), 0, 1, 2)), ["open", "open", "right"])
        self.assertEqual(verdicts(Problem(seen, ((4, 4), (0, 0), (0, 0)), 0, 0, 2)), ["right"] * 3)
        self.assertEqual(verdicts(Problem(seen, ((4, 4), (0, 0), (0, 0)), 1, 1, 2)), ["wrong", "wrong", "right"])

    def test_against_trying(self):
        found = {}
        for problem in problems(151, 400):
            told = verdicts(problem)
            self.assertEqual(told, written_verdicts(problem))
            for word in told:
                found[word] = found.get(word, 0) + 1
        self.assertGreater(min(found["right"], found["wrong"], found["open"]), 50)

    def test_too_many(self):
        with self.assertRaises(TooMany) as caught:
            verdicts(Problem(seen_at((0, 5)), ((0, 2000), (0, 0), (0, 0)), 0, 0, 1))
        self.assertEqual(caught.exception.place, 2000)
        self.assertEqual(verdicts(Problem(seen_at((0, 5)), ((1, 2000), (0, 0), (0, 0)), 0, 0, 1)), ["open"])


class LeastFaultsTest(unittest.TestCase):
    def test_from_0_to_the_number_of_the_senders(self):
        for own in (0, 1, 5):
            self.assertEqual(least_faults(Problem(seen_at((0, 5), (8, 3)), LINE, 0, 0, own)), 0)
            self.assertEqual(least_faults(Problem(seen_at((0, 5), (8, 3), (0, 7)), LINE, 0, 0, own)), 1)
            self.assertEqual(least_faults(Problem(seen_at((0, 5), (8, 2), (0, 7)), LINE, 0, 0, own)), 2)
            self.assertEqual(least_faults(Problem(seen_at((0, 50), (8, 20), (0, 70)), LINE, 0, 0, own)), 3)
            self.assertEqual(least_faults(Problem([], LINE, 0, 0, own)), 0)

    def test_against_trying(self):
        found = set()
        for problem in problems(152, 300):
            self.assertEqual(least_faults(problem), written_least(problem))
            found.add((least_faults(problem), len(senders(problem))))
        self.assertTrue({(0, 0), (0, 3), (1, 3), (1, 4), (2, 3), (0, 1), (1, 1)} <= found)

    def test_many_places_do_not_count(self):
        box = ((-TOP, TOP),) * 3
        self.assertEqual(least_faults(Problem([], box, 0, 0, 0)), 0)
        self.assertEqual(least_faults(Problem(seen_at((0, 77777)), box, 0, 0, 0)), 0)
        self.assertEqual(least_faults(Problem(seen_at((0, 77777), (9, -4)), box, 0, 0, 2)), 1)

    def test_the_whole_box(self):
        true = (-4444, 55555, 666666)
        beacons = [(900000, 0, 100), (-300, 800000, 5), (1000, -200, 700000), (-600000, -600000, 0),
                   (400000, 400000, 400000), (-9, -9, -999999)]
        readings = [written_distance(at, true) for at in beacons]
        for wrong in range(3):
            seen = [Observation(k, at, readings[k] + (1000 + 99 * k if k < wrong else 0), 0, None)
                    for k, at in enumerate(beacons)]
            self.assertEqual(least_faults(Problem(seen, ((-TOP, TOP),) * 3, 0, 0, 0)), wrong)


class ExtentTest(unittest.TestCase):
    def test_some_extents(self):
        problem = Problem(seen_at((0, 5), (8, 3), (0, 7)), LINE, 0, 0, 1)
        self.assertEqual(extent(problem), (((5, 5), (0, 0), (0, 0)), 0, 0))
        self.assertIsNone(extent(Problem(seen_at((0, 5), (8, 3), (0, 7)), LINE, 0, 0, 0)))
        self.assertEqual(extent(Problem([], ((-3, 4), (5, 5), (7, 9)), -6, 8, 0)), (((-3, 4), (5, 5), (7, 9)), -6, 8))
        self.assertEqual(extent(Problem(seen_at((0, 5)), ((-9, 9), (-9, 9), (-9, 9)), -1, 0, 0)),
                         (((-6, 6), (-6, 6), (-6, 6)), -1, 0))

    def test_against_trying(self):
        many = 0
        for problem in problems(153, 300):
            states = states_of(problem)
            if not states:
                self.assertIsNone(extent(problem))
                continue
            many += 1
            sides = [[point[k] for point, _ in states] for k in range(3)]
            offsets = [offset for _, offset in states]
            self.assertEqual(extent(problem),
                             (tuple((min(row), max(row)) for row in sides), min(offsets), max(offsets)))
        self.assertGreater(many, 100)

    def test_too_many(self):
        with self.assertRaises(TooMany) as caught:
            extent(Problem([], ((0, 2000), (0, 0), (0, 0)), 0, 0, 1))
        self.assertEqual(caught.exception.place, 2000)
        self.assertEqual(extent(Problem([], ((1, 2000), (0, 0), (0, 0)), 0, 0, 1)), (((1, 2000), (0, 0), (0, 0)), 0, 0))


class TrueStateTest(unittest.TestCase):
    def test_the_true_state_is_a_solution(self):
        """Point 15.4."""
        rng = random.Random(154)
        many = {"right": 0, "wrong": 0}
        for _ in range(300):
            problem = random_problem(rng, senders=6, observations=9)
            point = rng.choice(points_of(problem.box))
            offset = rng.randint(problem.least, problem.greatest)
            liars = rng.sample(range(0, 18, 3), rng.randint(0, 2))
            seen = [Observation(one.sender, one.point, written_distance(point, one.point) + offset
                                + (rng.randint(-4, 4) if one.sender in liars else 0), one.slack, one.modulus)
                    for one in problem.observations]
            problem = Problem(seen, problem.box, problem.least, problem.greatest, len(liars))
            missed = {one.sender for one in seen if not holds(one, written_distance(point, one.point), offset)}
            self.assertTrue(is_solution(problem, point, offset))
            for sender, word in zip(senders(problem), verdicts(problem)):
                if word != "open":
                    self.assertEqual(sender in missed, word == "wrong")
                    many[word] += 1
        self.assertGreater(min(many.values()), 50)


class UnchangedTest(unittest.TestCase):
    def test_the_problem_is_as_before(self):
        for problem in problems(150, 30):
            before = copy.deepcopy(problem)
            verdicts(problem).append("x")
            least_faults(problem)
            extent(problem)
            self.assertEqual(problem, before)


if __name__ == "__main__":
    unittest.main()
