import copy
import random
import unittest

from helpers import offsets_of, points_of, random_problem, served_by, written_distance, written_holds
from rangekeep.clocks import Clock
from rangekeep.codes import family, maximal_code
from rangekeep.explaining import account, excess, states
from rangekeep.fixing import Problem, is_solution, places, senders
from rangekeep.margin import Settings
from rangekeep.offsets import Observation
from rangekeep.orbits import Orbit
from rangekeep.receiver import observations
from rangekeep.samples import samples
from rangekeep.worlds import Beacon, Sky, received

LINE = ((0, 9), (0, 0), (0, 0))


def written_excess(one, far, offset):
    """Point 22.1, by trying all numbers, the nearest to 0 first, and of two the positive one first."""
    for size in range(10 ** 4):
        for sign in (1, -1):
            other = Observation(one.sender, one.point, one.reading + sign * size, one.slack, one.modulus)
            if written_holds(other, far, offset):
                return sign * size


class ExcessTest(unittest.TestCase):
    def test_it_holds(self):
        for modulus in (None, 9):
            one = Observation(0, (0, 0, 0), 5, 2, modulus)
            for total, told in [(3, 0), (5, 0), (7, 0), (2, -1), (8, 1)]:
                self.assertEqual(excess(one, total - 3, 3), told)

    def test_without_a_modulus(self):
        one = Observation(0, (0, 0, 0), -5, 0, None)
        self.assertEqual([excess(one, far, -9) for far in (0, 3, 4, 5, 1000)], [-4, -1, 0, 1, 996])

    def test_with_a_modulus(self):
        one = Observation(0, (0, 0, 0), 0, 1, 8)
        self.assertEqual([excess(one, far, 0) for far in range(9)], [0, 0, 1, 2, 3, -2, -1, 0, 0])
        odd = Observation(0, (0, 0, 0), 0, 0, 7)
        self.assertEqual([excess(odd, far, 0) for far in range(8)], [0, 1, 2, 3, -3, -2, -1, 0])

    def test_a_modulus_that_the_slack_fills(self):
        for modulus, slack in [(1, 0), (2, 1), (5, 2), (5, 9)]:
            one = Observation(0, (0, 0, 0), 3, slack, modulus)
            self.assertEqual([excess(one, far, 7) for far in range(12)], [0] * 12)

    def test_by_trying_all(self):
        rng = random.Random(221)
        for _ in range(1500):
            one = Observation(0, (0, 0, 0), rng.randint(-20, 20), rng.randint(0, 4), rng.choice((None, 1, 2, 5, 8, 13)))
            far, offset = rng.randint(0, 30), rng.randint(-30, 30)
            self.assertEqual(excess(one, far, offset), written_excess(one, far, offset))


class AccountTest(unittest.TestCase):
    def test_no_observations(self):
        self.assertEqual(account(Problem([], LINE, -3, 3, 0), (4, 0, 0)), (0, -3, []))

    def test_no_offset_that_serves_a_sender(self):
        seen = [Observation(4, (0, 0, 0), 50, 0, None), Observation(2, (9, 0, 0), -9, 1, None)]
        self.assertEqual(account(Problem(seen, LINE, -1, 3, 2), (4, 0, 0)), (0, -1, [[12], [-47]]))

    def test_the_least_offset(self):
        seen = [Observation(0, (0, 0, 0), 9, 1, None), Observation(1, (0, 0, 0), 12, 1, None)]
        self.assertEqual(account(Problem(seen, LINE, 0, 20, 0), (4, 0, 0)), (1, 4, [[0], [-3]]))
        self.assertEqual(account(Problem(seen, LINE, 5, 20, 0), (4, 0, 0)), (1, 5, [[0], [-2]]))
        self.assertEqual(account(Problem(seen, LINE, 7, 20, 0), (4, 0, 0)), (1, 7, [[1], [0]]))

    def test_the_order_of_the_excesses(self):
        seen = [Observation(7, (0, 0, 0), 4, 0, None), Observation(2, (0, 0, 0), 3, 0, None),
                Observation(7, (9, 0, 0), 4, 0, None), Observation(2, (9, 0, 0), 7, 0, None),
                Observation(7, (4, 0, 0), 0, 0, 5)]
        self.assertEqual(account(Problem(seen, LINE, 0, 0, 0), (4, 0, 0)), (0, 0, [[1, -2], [0, 1, 0]]))

    def test_by_trying_all(self):
        rng = random.Random(222)
        depths = {}
        for _ in range(250):
            problem = random_problem(rng)
            for point in rng.sample(points_of(problem.box), min(3, len(points_of(problem.box)))):
                best = {}
                for offset in range(problem.greatest, problem.least - 1, -1):
                    best[list(served_by(problem, point, offset).values()).count(True)] = offset
                depth = max(best)
                offset = best[depth] if depth else problem.least
                told = account(problem, point)
                self.assertEqual(told[:2], (depth, offset))
                self.assertEqual(told[2], [[written_excess(one, written_distance(point, one.point), offset)
                                            for one in problem.observations if one.sender == sender]
                                           for sender in senders(problem)])
                # So a place is a solution exactly if the depth is large enough.
                many = len(senders(problem))
                self.assertEqual(depth >= many - problem.faults, point in places(problem))
                if depth > 0:
                    self.assertEqual([any(row) for row in told[2]].count(False), depth)
                    self.assertEqual(is_solution(problem, point, offset), depth >= many - problem.faults)
                depths[depth] = depths.get(depth, 0) + 1
        self.assertGreater(min(depths[0], depths[1], depths[2]), 30)
        self.assertEqual(offsets_of([(1, 3)]), [1, 2, 3])


CODE = maximal_code((2, 3))
ORBIT = Orbit(0, 9000, (30, 40, 0), (0, 0, 0), (0, 0, 0))
CLOCK = Clock(0, 0, 0)
BAND = Settings([CODE], [(10, 10)], 1, False)
DEAF = Settings(family((2, 3))[:2], [(10, 10)] * 2, 1, False)
NOTHING = (None, None)


class StatesTest(unittest.TestCase):
    """Point 22.3."""

    def rows(self, records, first=2):
        one = Beacon(10, ORBIT, CLOCK, first, 0, records)
        return received(Sky([BAND], 0, (0, 1), [one]), (29, 39, 0), 0, [[0] * 4000])

    def state(self, records, n, known=NOTHING):
        told = states([BAND], [known], self.rows(records), n)
        self.assertEqual(len(told), 1)
        return told[0]

    def test_deaf(self):
        for known in (NOTHING, (ORBIT, CLOCK)):
            self.assertEqual(states([DEAF], [known] * 2, [samples([], [0] * 99)], 50), ["deaf", "deaf"])

    def test_silent(self):
        for known in (NOTHING, (ORBIT, CLOCK), (ORBIT, None)):
            self.assertEqual(states([BAND], [known], [[0] * 99], 50), ["silent"])
            self.assertEqual(states([BAND], [known], [[]], 50), ["silent"])

    def test_no_orbit_and_no_clock(self):
        self.assertEqual(self.state([], 99), "no orbit")
        self.assertEqual(self.state([], 99, (None, CLOCK)), "no orbit")
        self.assertEqual(self.state([], 99, (ORBIT, None)), "no clock")
        self.assertEqual(self.state([("time", 0), ("clock", 0, 0, 0)], 10 ** 6), "no orbit")
        self.assertEqual(self.state([("time", 0), ("orbit", 0, 9) + (0,) * 9], 10 ** 6), "no clock")

    def test_seen_and_unread(self):
        self.assertEqual(self.state([], 99, (ORBIT, CLOCK)), "unread")
        self.assertEqual(self.state([("time", 0)], 10 ** 6, (ORBIT, CLOCK)), "seen")
        # The time record is heard at one sample.
        words = [self.state([("time", 0)], n, (ORBIT, CLOCK)) for n in range(600, 1000)]
        self.assertEqual(sorted(set(words)), ["seen", "unread"])
        self.assertEqual(words, sorted(words, reverse=True))

    def test_none(self):
        self.assertEqual(self.state([], 0, (ORBIT, CLOCK)), "none")
        moves = Orbit(0, 9000, (30, 40, 0), (1, 0, 0), (0, 0, 0))
        self.assertEqual(self.state([], 99, (moves, CLOCK)), "none")
        ended = Orbit(0, 5, (30, 40, 0), (0, 0, 0), (0, 0, 0))
        self.assertEqual(self.state([("time", 0)], 10 ** 6, (ended, CLOCK)), "none")

    def test_several_senders(self):
        bands = [BAND, DEAF, BAND, BAND, BAND]
        rows = self.rows([("time", 0)]) + [[0] * 9] + self.rows([]) + [[0] * 99] + self.rows([])
        almanac = [(ORBIT, CLOCK), NOTHING, NOTHING, (ORBIT, CLOCK), (ORBIT, CLOCK), (ORBIT, None)]
        told = states(bands, almanac, rows, 2000)
        self.assertEqual(told, ["seen", "deaf", "deaf", "unread", "silent", "no clock"])
        seen = [one.sender for one in observations(bands, almanac, rows, 2000)]
        self.assertEqual(seen, [k for k, word in enumerate(told) if word in ("seen", "unread")])

    def test_the_arguments_are_as_before(self):
        bands, almanac, rows = [BAND], [(ORBIT, CLOCK)], self.rows([("time", 0)])
        problem = random_problem(random.Random(22))
        before = copy.deepcopy([bands, almanac, rows, problem])
        states(bands, almanac, rows, 900).append("x")
        account(problem, points_of(problem.box)[0])[2].append("x")
        self.assertEqual([bands, almanac, rows, problem], before)


if __name__ == "__main__":
    unittest.main()
