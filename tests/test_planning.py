import copy
import random
import unittest
from itertools import combinations

from helpers import STRANGE, all_states, changed, part_at, places_in, points_of, random_box, random_point, spoiled, \
    written_distance
from rangekeep.fixing import Problem, places
from rangekeep.offsets import Observation
from rangekeep.planning import Plan, best, bound, doubt, is_bound, is_confused, shows_best, worst_doubt

PLAN = Plan([(0, 0, 0), (0, 9, 0), (4, 0, 0)], ((0, 2), (0, 0), (0, 0)), 0, 0, 0, 1)
HERE = ((0, 0, 0), 0)
NONE = ("none",)


def written_confused(plan, choice, first, second):
    """Point 24.2."""
    return all(abs(written_distance(first[0], plan.points[i]) + first[1]
                   - written_distance(second[0], plan.points[i]) - second[1]) <= plan.slack for i in choice)


def written_doubt(plan, choice, state):
    return len({other[0] for other in all_states(plan) if written_confused(plan, choice, state, other)})


def written_worst(plan, choice):
    return max(written_doubt(plan, choice, state) for state in all_states(plan))


def random_plan(rng, beacons=4, side=2):
    points = [random_point(rng, rng.choice((3, 9))) for _ in range(rng.randint(0, beacons))]
    least = rng.randint(-2, 1)
    return Plan(points, random_box(rng, 3, side), least, least + rng.randint(0, 2), rng.choice((0, 0, 1)),
                rng.randint(0, len(points)))


def random_plans(seed, many, **bounds):
    rng = random.Random(seed)
    return [random_plan(rng, **bounds) for _ in range(many)]


def choices_of(plan, count=None):
    every = range(len(plan.points) + 1) if count is None else (count,)
    return [choice for size in every for choice in combinations(range(len(plan.points)), size)]


def written_bound(plan, number, node, taken, left):
    """Point 24.5, for a value that has the form of a tree."""
    if len(taken) == plan.count:
        left = []
    if node[0] == "none":
        return len(taken) + len(left) < plan.count
    if node[0] == "split":
        return (len(left) > 0 and written_bound(plan, number, node[1], taken + left[:1], left[1:])
                and written_bound(plan, number, node[2], taken, left[1:]))
    points = [point for point, _ in node[2]]
    return (len(points) >= number and len(set(points)) == len(points)
            and all(written_confused(plan, taken + left, node[1], other) for other in node[2])
            and all(other in all_states(plan) for other in node[2] + (node[1],)))


def any_node(rng, plan, number, deep):
    """A tree of any form."""
    kind = rng.choice(("low", "split", "split", "none")) if deep else rng.choice(("low", "low", "none"))
    if kind == "none":
        return NONE
    if kind == "split":
        return "split", any_node(rng, plan, number, deep - 1), any_node(rng, plan, number, deep - 1)
    states = all_states(plan)
    state = rng.choice(states)
    others = [other for other in states if written_confused(plan, rng.sample(range(len(plan.points)), min(
        len(plan.points), plan.count)), state, other)]
    return "low", state, tuple(rng.sample(others, min(len(others), number + rng.choice((0, 0, 0, 1, -1))))
                               if others and number > 0 else ())


class PlanTest(unittest.TestCase):
    TOLD = ([(1, 2, 3)], ((0, 1), (2, 3), (4, 5)), -3, 4, 1, 0)

    def test_the_attributes(self):
        points = [(1, 2, 3)]
        plan = Plan(points, *self.TOLD[1:])
        points.append("x")
        self.assertEqual((plan.points, plan.box, plan.least, plan.greatest, plan.slack, plan.count), self.TOLD)

    def test_equality(self):
        self.assertTrue(Plan(*self.TOLD) == Plan(*self.TOLD))
        self.assertFalse(Plan(*self.TOLD) != Plan(*self.TOLD))
        for k, value in enumerate(([], ((0, 1), (2, 3), (4, 6)), -2, 5, 0, 1)):
            other = Plan(*[value if k == at else was for at, was in enumerate(self.TOLD)])
            self.assertFalse(Plan(*self.TOLD) == other)
            self.assertTrue(Plan(*self.TOLD) != other)
        for other in (None, self.TOLD, [], "x", Problem([], self.TOLD[1], -3, 4, 0), object()):
            self.assertFalse(Plan(*self.TOLD) == other)
            self.assertFalse(other == Plan(*self.TOLD))


class DoubtTest(unittest.TestCase):
    """Points 24.2 and 24.3."""

    def test_just_at_the_slack(self):
        line = ((0, 9), (0, 0), (0, 0))
        for slack in (0, 1, 3):
            plan = Plan([(0, 0, 0), (9, 0, 0)], line, -5, 5, slack, 1)
            for away in range(-4, 5):
                other = ((4 + away, 0, 0), 1)
                self.assertIs(is_confused(plan, (0,), ((4, 0, 0), 1), other), abs(away) <= slack)
                self.assertIs(is_confused(plan, (1,), ((4, 0, 0), 1), other), abs(away) <= slack)
                self.assertIs(is_confused(plan, (0,), ((4, 0, 0), 1), ((4 + away, 0, 0), 1 - away)), True)
                self.assertIs(is_confused(plan, (0, 1), ((4, 0, 0), 1), ((4 + away, 0, 0), 1 - away)),
                              2 * abs(away) <= slack)
                self.assertIs(is_confused(plan, (), ((4, 0, 0), 1), other), True)

    def test_by_trying_all(self):
        rng = random.Random(242)
        many = {}
        for plan in random_plans(2421, 150):
            states = all_states(plan)
            for choice in choices_of(plan):
                first, second = rng.choice(states), rng.choice(states)
                told = written_confused(plan, choice, first, second)
                self.assertIs(is_confused(plan, choice, first, second), told)
                self.assertEqual(doubt(plan, choice, first), written_doubt(plan, choice, first))
                many[told] = many.get(told, 0) + 1
        self.assertGreater(min(many.values()), 200)

    def test_worst_doubts(self):
        for plan in random_plans(2422, 60, beacons=3):
            for choice in choices_of(plan):
                self.assertEqual(worst_doubt(plan, choice), written_worst(plan, choice))

    def test_the_empty_choice(self):
        for plan in random_plans(2423, 20):
            self.assertEqual(doubt(plan, (), all_states(plan)[0]), len(points_of(plan.box)))
            self.assertEqual(worst_doubt(plan, ()), len(points_of(plan.box)))

    def test_the_places_of_a_problem(self):
        """Point 24.2: the doubt is the number of the places."""
        rng = random.Random(2424)
        for plan in random_plans(2425, 80):
            point, offset = rng.choice(all_states(plan))
            for choice in choices_of(plan):
                seen = [Observation(i, plan.points[i], written_distance(point, plan.points[i]) + offset, plan.slack,
                                    None)
                        for i in choice]
                problem = Problem(seen, plan.box, plan.least, plan.greatest, 0)
                self.assertEqual(doubt(plan, choice, (point, offset)), len(places(problem)))

    def test_more_beacons(self):
        """Point 24.3."""
        rng = random.Random(2426)
        for plan in random_plans(243, 60):
            for choice in choices_of(plan):
                for fewer in choices_of(plan):
                    if set(fewer) <= set(choice):
                        state = rng.choice(all_states(plan))
                        self.assertLessEqual(doubt(plan, choice, state), doubt(plan, fewer, state))

    def test_offsets_at_the_edge_of_the_plan(self):
        plan = Plan([(0, 0, 0)], ((0, 9), (0, 0), (0, 0)), 0, 3, 1, 1)
        self.assertEqual([doubt(plan, (0,), ((4, 0, 0), offset)) for offset in range(4)], [6, 6, 6, 6])
        self.assertEqual([doubt(plan, (0,), ((0, 0, 0), offset)) for offset in range(4)], [2, 3, 4, 5])
        self.assertEqual([doubt(plan, (0,), ((9, 0, 0), offset)) for offset in range(4)], [5, 4, 3, 2])


class BestTest(unittest.TestCase):
    """Point 24.4."""

    def test_by_trying_all(self):
        counts = {}
        for plan in random_plans(244, 120):
            worst, choice = min((written_worst(plan, choice), choice) for choice in choices_of(plan, plan.count))
            self.assertEqual(best(plan), (choice, worst))
            counts[plan.count] = counts.get(plan.count, 0) + 1
        self.assertGreater(min(counts.values()), 3)
        self.assertEqual(sorted(counts), [0, 1, 2, 3, 4])

    def test_of_several_the_least_one(self):
        same = Plan([(5, 0, 0)] * 4, ((0, 2), (0, 0), (0, 0)), 0, 0, 0, 2)
        self.assertEqual(best(same), ((0, 1), 1))
        later = Plan([(0, 9, 0), (0, 9, 0), (5, 0, 0), (5, 0, 0)], ((0, 2), (0, 0), (0, 0)), 0, 0, 0, 1)
        self.assertEqual(best(later), ((2,), 1))

    def test_no_beacons(self):
        self.assertEqual(best(Plan([], ((0, 2), (0, 1), (5, 5)), 0, 9, 0, 0)), ((), 6))
        self.assertEqual(best(Plan([(1, 1, 1)], ((0, 2), (0, 1), (5, 5)), 0, 9, 0, 0)), ((), 6))

    def test_a_large_plan(self):
        rng = random.Random(2441)
        plan = Plan([random_point(rng, 40) for _ in range(8)], ((0, 9), (0, 9), (3, 3)), -10, 10, 1, 4)
        choice, worst = best(plan)
        self.assertEqual(worst, worst_doubt(plan, choice))
        for other in choices_of(plan, 4):
            self.assertLessEqual((worst, choice), (worst_doubt(plan, other), other))
        paper = bound(plan, worst)
        self.assertIs(shows_best(plan, choice, paper), True)
        self.assertIsNone(bound(plan, worst + 1))


class BoundTest(unittest.TestCase):
    """Point 24.5."""

    def test_own_bounds_just_up_to_the_least_worst_doubt(self):
        for plan in random_plans(245, 80):
            choice, worst = best(plan)
            for number in range(worst + 3):
                paper = bound(plan, number)
                if number > worst:
                    self.assertIsNone(paper)
                else:
                    self.assertIs(is_bound(plan, number, paper), True)
                    self.assertTrue(written_bound(plan, number, paper, [], list(range(len(plan.points)))))
                    self.assertIs(shows_best(plan, choice, paper), number == worst or is_bound(plan, worst, paper))

    def test_trees_of_any_form(self):
        rng = random.Random(2451)
        many = {}
        for plan in random_plans(2452, 1500):
            number = rng.randint(0, best(plan)[1])
            paper = any_node(rng, plan, number, rng.randint(0, 2))
            told = written_bound(plan, number, paper, [], list(range(len(plan.points))))
            self.assertIs(is_bound(plan, number, paper), told)
            if told:
                self.assertLessEqual(number, best(plan)[1])
            kind = told, paper[0]
            many[kind] = many.get(kind, 0) + 1
        self.assertGreater(many[True, "low"], 100)
        self.assertGreater(many[True, "split"], 15)
        self.assertGreater(many[False, "low"], 100)

    def test_nodes_of_the_root(self):
        for count, is_right in [(0, False), (1, False), (3, False)]:
            plan = Plan(PLAN.points, PLAN.box, 0, 0, 0, count)
            self.assertIs(is_bound(plan, 0, NONE), is_right)
        # The root of a count of 0 leaves all beacons out at once.
        empty = Plan(PLAN.points, PLAN.box, 0, 0, 0, 0)
        low = ("low", HERE, tuple(((x, 0, 0), 0) for x in range(3)))
        self.assertIs(is_bound(empty, 3, low), True)
        self.assertIs(is_bound(empty, 0, ("split", low, low)), False)
        self.assertIs(is_bound(PLAN, 3, low), False)

    def test_a_count_that_no_choice_has(self):
        four = Plan(PLAN.points, PLAN.box, 0, 0, 0, 4)
        for number in (0, 1, 99):
            self.assertIs(is_bound(four, number, NONE), True)
            self.assertEqual(bound(four, number), NONE)

    def test_none_and_split(self):
        low = ("low", HERE, (HERE,))
        three = Plan(PLAN.points, PLAN.box, 0, 0, 0, 3)
        self.assertIs(is_bound(three, 1, ("split", low, NONE)), True)
        self.assertIs(is_bound(three, 1, ("split", NONE, NONE)), False)
        self.assertIs(is_bound(three, 1, ("split", ("split", ("split", low, NONE), NONE), NONE)), True)
        self.assertIs(is_bound(three, 1, ("split", ("split", ("split", ("split", low, low), NONE), NONE), NONE)), False)
        two = Plan(PLAN.points, PLAN.box, 0, 0, 0, 2)
        self.assertIs(is_bound(two, 1, ("split", ("split", low, low), low)), True)
        self.assertIs(is_bound(two, 1, ("split", low, NONE)), False)
        self.assertIs(is_bound(two, 1, ("split", low, ("split", low, NONE))), True)
        self.assertIs(is_bound(two, 1, ("split", ("split", ("split", low, low), low), low)), False)
        one = Plan([(0, 0, 0)], PLAN.box, 0, 0, 0, 1)
        self.assertIs(is_bound(one, 1, ("split", low, NONE)), True)

    def test_the_least_open_beacon_is_taken_first(self):
        """By the beacon 1 alone, 3 points are confused, by the others none."""
        all_three = ("low", HERE, tuple(((x, 0, 0), 0) for x in range(3)))
        only = ("low", HERE, (HERE,))
        self.assertIs(is_bound(PLAN, 1, ("split", only, ("split", all_three, only))), True)
        self.assertIs(is_bound(PLAN, 1, ("split", all_three, ("split", only, only))), False)
        self.assertIs(is_bound(PLAN, 1, ("split", only, ("split", only, all_three))), False)
        # What is taken counts together with what is still open.
        self.assertIs(is_bound(PLAN, 1, ("split", only, all_three)), False)

    def test_the_states_of_a_low(self):
        plan = Plan([(0, 9, 0)], ((0, 2), (0, 0), (0, 0)), 0, 1, 0, 1)
        states = [((x, 0, 0), 0) for x in range(3)]
        low = ("low", states[0], tuple(states))
        for number in range(6):
            self.assertIs(is_bound(plan, number, low), number <= 3)
        for others, told in [(tuple(states[:2]), 2), (tuple(states[1:]), 2), ((states[0], states[0]), None), ((), 0),
                             (((states[0]), ((0, 0, 0), 1)), None), ((states[0], ((1, 0, 0), 1)), None),
                             ((states[0], ((3, 0, 0), 0)), None), ((states[0], ((1, 0, 0), 2)), None),
                             ((states[0], ((1, 1, 0), 0)), None), ((states[0], ((1, 0, 0), -1)), None)]:
            for number in range(5):
                self.assertIs(is_bound(plan, number, ("low", states[0], others)), told is not None and number <= told)
        for state in [((3, 0, 0), 0), ((0, 0, 0), 2), ((0, 0, 0), -1), ((-1, 0, 0), 0)]:
            self.assertIs(is_bound(plan, 0, ("low", state, ())), False)
            self.assertIs(is_bound(plan, 1, ("low", state, (state,))), False)

    def test_papers_of_anybody(self):
        paper = bound(PLAN, 1)
        plan = Plan([(0, 0, 0), (0, 3, 0)], ((0, 2), (0, 2), (0, 0)), 0, 1, 0, 1)
        for plan, number in [(PLAN, 1), (plan, best(plan)[1])]:
            paper = bound(plan, number)
            self.assertIs(is_bound(plan, number, paper), True)
            for other in spoiled(paper):
                self.assertIs(is_bound(plan, number, other), False, other)
            for path in places_in(paper):
                was = part_at(paper, path)
                if was in (0, 1) and isinstance(was, int):
                    self.assertIs(is_bound(plan, number, changed(paper, path, bool(was))), False)
        for paper in STRANGE + [(), ["none"], ("low",), ("low", HERE), ("low", HERE, [HERE]), ["low", HERE, ()],
                                ("low", HERE, (), ()), ("split", NONE), ("split", NONE, NONE, NONE), "none",
                                ("low", [(0, 0, 0), 0], ()), ("low", ([0, 0, 0], 0), ()), ("low", HERE, None),
                                ("none", ()), ("lower", HERE, ()), (("none",),)]:
            self.assertIs(is_bound(PLAN, 0, paper), False)

    def test_deep_papers(self):
        deep = NONE
        for _ in range(20000):
            deep = ("split", deep, deep)
        self.assertIs(is_bound(PLAN, 0, deep), False)
        self.assertIs(is_bound(PLAN, 0, ("low", deep, ())), False)
        self.assertIs(is_bound(PLAN, 0, ("low", HERE, deep)), False)


class ShowsBestTest(unittest.TestCase):
    def test_choices_of_another_length(self):
        for choice in ((), (0, 1), (0, 1, 2)):
            for number in range(4):
                self.assertIs(shows_best(PLAN, choice, ("low", HERE, (HERE,) * number)), False)
            self.assertIs(shows_best(PLAN, choice, bound(PLAN, 1)), False)
        self.assertIs(shows_best(PLAN, (0,), bound(PLAN, 1)), True)

    def test_choices_that_are_not_best(self):
        for plan in random_plans(2453, 60):
            worst = best(plan)[1]
            paper = bound(plan, worst)
            for choice in choices_of(plan):
                is_best = len(choice) == plan.count and worst_doubt(plan, choice) == worst
                self.assertEqual(shows_best(plan, choice, paper),
                                 is_best or (len(choice) == plan.count
                                             and is_bound(plan, worst_doubt(plan, choice), paper)))
                if is_best:
                    self.assertIs(shows_best(plan, choice, paper), True)
                elif shows_best(plan, choice, paper):
                    self.fail("no bound shows that a choice is best that is not")

    def test_the_arguments_are_as_before(self):
        for plan in random_plans(240, 10):
            before = copy.deepcopy(plan)
            choice, worst = best(plan)
            shows_best(plan, choice, bound(plan, worst))
            doubt(plan, choice, all_states(plan)[0])
            self.assertEqual(plan, before)


if __name__ == "__main__":
    unittest.main()
