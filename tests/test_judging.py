import copy
import random
import unittest

from helpers import changed, part_at, points_of, random_problem, states_of
from rangekeep.errors import TooMany
from rangekeep.faults import least_faults, verdicts
from rangekeep.fixing import Problem, places, reach, senders, tree
from rangekeep.judging import faults_paper, shown, shown_verdicts, shows_faults
from rangekeep.offsets import Observation

TOP = 1000000
LINE = ((0, 8), (0, 0), (0, 0))
SEEN = [Observation(0, (0, 0, 0), 5, 0, None), Observation(1, (8, 0, 0), 3, 0, None)]
PROBLEM = Problem(SEEN, LINE, 0, 0, 0)
OUT, PLACE = ("out",), ("place",)
PAPER = ("cut", 0, 4, OUT, ("cut", 0, 6, ("cut", 0, 5, PLACE, OUT), OUT))
STRANGE = [None, True, False, 0, 1, -1, "", "out", "place", "cut", (), [], ("",), (None,), ("outer",), ["out"],
           ["place"], ("out", "out"), (("out",),), ("place", 0), "('out',)", (0, 4, OUT, OUT)]


def problems(seed, many, **bounds):
    rng = random.Random(seed)
    return [random_problem(rng, **bounds) for _ in range(many)]


def halves(box, axis, at):
    low, high = box[axis]
    return [tuple(part if k == axis else side for k, side in enumerate(box)) for part in ((low, at), (at + 1, high))]


def any_tree(rng, problem, box):
    """A tree that shows the solutions in a box, with cuts anywhere, also where the reach is too small."""
    is_out = reach(problem, box) < len(senders(problem)) - problem.faults
    axes = [axis for axis in range(3) if box[axis][0] < box[axis][1]]
    if is_out and (not axes or rng.random() < 0.6):
        return OUT
    if not axes:
        return PLACE
    axis = rng.choice(axes)
    at = rng.randint(box[axis][0], box[axis][1] - 1)
    first, second = halves(box, axis, at)
    return ("cut", axis, at, any_tree(rng, problem, first), any_tree(rng, problem, second))


def nodes_of(paper, path=()):
    """The paths of all nodes of a tree."""
    told = [path]
    if paper[0] == "cut":
        told += nodes_of(paper[3], path + (3,)) + nodes_of(paper[4], path + (4,))
    return told


def chain(sides, last):
    """A tree for a row of places 0 to sides - 1, which cuts them off one by one."""
    paper = last
    for at in range(sides - 2, -1, -1):
        paper = ("cut", 0, at, OUT, paper)
    return paper


class ShownTest(unittest.TestCase):
    def test_the_tree_of_the_problem(self):
        self.assertEqual(shown(PROBLEM, PAPER), [(5, 0, 0)])
        for problem in problems(161, 200):
            self.assertEqual(shown(problem, tree(problem)), places(problem))

    def test_trees_that_are_cut_elsewhere(self):
        rng = random.Random(1611)
        for problem in problems(1612, 150):
            for _ in range(3):
                self.assertEqual(shown(problem, any_tree(rng, problem, problem.box)),
                                 sorted({point for point, _ in states_of(problem)}))

    def test_the_places_are_ascending(self):
        problem = Problem([], ((0, 1), (0, 1), (0, 0)), 0, 0, 0)
        paper = ("cut", 1, 0, ("cut", 0, 0, PLACE, PLACE), ("cut", 0, 0, PLACE, PLACE))
        self.assertEqual(shown(problem, paper), [(0, 0, 0), (0, 1, 0), (1, 0, 0), (1, 1, 0)])

    def test_a_wrong_out(self):
        self.assertIsNone(shown(PROBLEM, OUT))
        self.assertIsNone(shown(PROBLEM, ("cut", 0, 4, OUT, OUT)))
        # A box without a place may have a reach that is not too small.
        wide = Problem([Observation(0, (0, 0, 0), 5, 0, None), Observation(1, (0, 0, 0), 6, 0, None)], LINE, 0, 0, 0)
        self.assertEqual(places(wide), [])
        self.assertIsNone(shown(wide, OUT))
        self.assertEqual(shown(wide, ("cut", 0, 5, OUT, OUT)), [])

    def test_a_wrong_place(self):
        self.assertIsNone(shown(PROBLEM, PLACE))
        self.assertIsNone(shown(PROBLEM, changed(PAPER, (3,), PLACE)))
        self.assertIsNone(shown(PROBLEM, changed(PAPER, (4, 3, 4), PLACE)))
        self.assertIsNone(shown(PROBLEM, ("cut", 0, 4, OUT, ("cut", 0, 5, PLACE, PLACE))))
        one = Problem(SEEN, ((4, 4), (0, 0), (0, 0)), 0, 0, 0)
        self.assertEqual([shown(one, OUT), shown(one, PLACE)], [[], None])
        # All points of a box are places, but it has two of them.
        free = Problem([], ((4, 5), (0, 0), (0, 0)), 0, 0, 0)
        self.assertIsNone(shown(free, PLACE))
        self.assertIsNone(shown(free, OUT))

    def test_a_cut_out_of_range(self):
        for at in (-1, 8, 9, -TOP):
            self.assertIsNone(shown(PROBLEM, ("cut", 0, at, OUT, PAPER[4])))
            self.assertIsNone(shown(PROBLEM, ("cut", 0, at, PAPER, OUT)))
        empty = Problem(SEEN, ((0, 3), (0, 0), (0, 0)), 0, 0, 0)
        self.assertEqual([shown(empty, ("cut", 0, at, OUT, OUT)) for at in (-1, 0, 2, 3)], [None, [], [], None])
        for axis in (1, 2, 3, -1, -3):
            self.assertIsNone(shown(empty, ("cut", axis, 0, OUT, OUT)))
        cube = Problem(SEEN, ((0, 2), (0, 2), (0, 2)), 0, 0, 0)
        self.assertEqual([shown(cube, ("cut", axis, 1, OUT, OUT)) for axis in (-3, -2, -1, 0, 1, 2, 3, TOP)],
                         [None, None, None, [], [], [], None, None])
        # A cut in range of the whole box, but not of the half that it cuts.
        self.assertIsNone(shown(PROBLEM, ("cut", 0, 4, ("cut", 0, 4, OUT, OUT), PAPER[4])))
        self.assertEqual(shown(PROBLEM, ("cut", 0, 4, ("cut", 0, 3, OUT, OUT), PAPER[4])), [(5, 0, 0)])

    def test_truth_values_are_no_integers(self):
        cube = Problem(SEEN, ((0, 2), (0, 2), (0, 2)), 0, 0, 0)
        for axis, at in [(0, 0), (0, 1), (1, 0), (1, 1), (2, 1)]:
            self.assertEqual(shown(cube, ("cut", axis, at, OUT, OUT)), [])
        for axis, at in [(False, 0), (False, 1), (True, 0), (True, 1), (0, False), (0, True), (2, True)]:
            self.assertIsNone(shown(cube, ("cut", axis, at, OUT, OUT)))

    def test_lists_are_no_tuples(self):
        for paper in (list(PAPER), ["out"], ("cut", 0, 4, ["out"], PAPER[4]), ("cut", 0, 4, OUT, list(PAPER[4]))):
            self.assertIsNone(shown(PROBLEM, paper))

    def test_wrong_lengths_and_words(self):
        for paper in (PAPER[:4], PAPER + (OUT,), PAPER[:3], PAPER[1:], ("Cut",) + PAPER[1:], ("cut",), ("cut", 0, 4),
                      (None,) + PAPER[1:], (("cut",),) + PAPER[1:], (0,) + PAPER[1:]):
            self.assertIsNone(shown(PROBLEM, paper))
        for axis, at in [("0", 4), (None, 4), ((0,), 4), (0, "4"), (0, None), (0, (4,)), ([], []), (0, [4])]:
            self.assertIsNone(shown(PROBLEM, ("cut", axis, at) + PAPER[3:]))

    def test_strange_values_at_each_place(self):
        for path in nodes_of(PAPER):
            for value in STRANGE:
                self.assertIsNone(shown(PROBLEM, changed(PAPER, path, value)), (path, value))

    def test_one_node_that_is_changed(self):
        rng = random.Random(1613)
        many = 0
        for problem in problems(1614, 150):
            paper = tree(problem)
            path = rng.choice(nodes_of(paper))
            node = part_at(paper, path)
            for other in (OUT, PLACE):
                if node in (OUT, PLACE) and node != other:
                    self.assertIsNone(shown(problem, changed(paper, path, other)))
                    many += 1
        self.assertGreater(many, 60)

    def test_deep_papers(self):
        row = Problem([], ((0, 5000), (0, 0), (0, 0)), 0, 0, 0)
        far = Problem([Observation(0, (0, 0, 0), 5000, 0, None)], ((0, 5000), (0, 0), (0, 0)), 0, 0, 0)
        self.assertEqual(shown(far, chain(5001, PLACE)), [(5000, 0, 0)])
        self.assertIsNone(shown(far, chain(5001, OUT)))
        self.assertIsNone(shown(row, chain(5001, PLACE)))
        nested = ()
        for _ in range(5000):
            nested = (nested,)
        for paper in (nested, ("cut", 0, nested, OUT, OUT), ("cut", nested, 4, OUT, OUT), (nested, 0, 4, OUT, OUT)):
            self.assertIsNone(shown(PROBLEM, paper))

    def test_more_than_2000_places(self):
        problem = Problem([], ((0, 2000), (0, 0), (0, 0)), 0, 0, 0)
        first = tree(Problem([], ((0, 1000), (0, 0), (0, 0)), 0, 0, 0))
        second = tree(Problem([], ((1001, 2000), (0, 0), (0, 0)), 0, 0, 0))
        self.assertEqual(len(shown(problem, ("cut", 0, 1000, first, second))), 2001)


class ShownVerdictsTest(unittest.TestCase):
    def test_like_the_verdicts(self):
        rng = random.Random(163)
        for problem in problems(1631, 100):
            self.assertEqual(shown_verdicts(problem, tree(problem)), verdicts(problem))
            self.assertEqual(shown_verdicts(problem, any_tree(rng, problem, problem.box)), verdicts(problem))

    def test_papers_that_show_nothing(self):
        self.assertEqual(shown_verdicts(PROBLEM, PAPER), ["right", "right"])
        for paper in STRANGE + [OUT, PLACE, ("cut", 0, 4, OUT, OUT), list(PAPER)]:
            self.assertIsNone(shown_verdicts(PROBLEM, paper))

    def test_no_places(self):
        empty = Problem(SEEN, ((0, 3), (0, 0), (0, 0)), 0, 0, 0)
        self.assertEqual(shown_verdicts(empty, OUT), ["open", "open"])
        self.assertEqual(shown_verdicts(Problem([], LINE, 0, 0, -1), OUT), [])


class FaultsPaperTest(unittest.TestCase):
    def check(self, problem):
        number, paper = least_faults(problem), faults_paper(problem)
        self.assertIs(shows_faults(problem, number, paper), True)
        self.assertEqual(paper[0] is None, number == 0)
        for other in (number - 1, number + 1, number + 2, -1):
            self.assertIs(shows_faults(problem, other, paper), False)
        return number

    def test_own_papers(self):
        found = {}
        for problem in problems(164, 200):
            number = self.check(problem)
            found[number] = found.get(number, 0) + 1
        self.assertGreater(min(found[0], found[1], found[2]), 10)

    def test_more_than_2000_places(self):
        box = ((-TOP, TOP),) * 3
        self.assertEqual(self.check(Problem([], box, 0, 0, 0)), 0)
        self.assertEqual(self.check(Problem(SEEN[:1], box, 0, 0, 3)), 0)
        lying = [Observation(0, (0, 0, 0), 77777, 0, None), Observation(1, (9, 9, 9), -4, 0, None)]
        problem = Problem(lying, box, 0, 0, 0)
        self.assertEqual(self.check(problem), 1)
        with self.assertRaises(TooMany):
            tree(Problem(lying, box, 0, 0, 1))

    def test_papers_of_others(self):
        lying = SEEN + [Observation(2, (0, 0, 0), 7, 0, None)]
        problem = Problem(lying, LINE, 0, 3, 0)
        fewer = tree(problem)
        for state, is_shown in [(((5, 0, 0), 0), True), (((6, 0, 0), 1), True), (((7, 0, 0), 0), False),
                                (((3, 0, 0), 0), False)]:
            self.assertIs(shows_faults(problem, 1, (fewer, state)), is_shown)
        rng = random.Random(1641)
        for _ in range(20):
            self.assertTrue(shows_faults(problem, 1, (any_tree(rng, problem, LINE), ((5, 0, 0), 0))))
        # One fewer must be too few, and not some other number.
        more = Problem(lying, LINE, 0, 3, 1)
        self.assertIs(shows_faults(problem, 1, (tree(more), ((5, 0, 0), 0))), False)
        self.assertIs(shows_faults(problem, 2, (fewer, ((5, 0, 0), 0))), False)
        self.assertIs(shows_faults(problem, 2, (tree(more), ((5, 0, 0), 0))), False)
        # The problem's own number does not count.
        self.assertIs(shows_faults(more, 1, (fewer, ((5, 0, 0), 0))), True)

    def test_the_number_0(self):
        self.assertIs(shows_faults(PROBLEM, 0, (None, ((5, 0, 0), 0))), True)
        for fewer in (OUT, PAPER, (), False, 0, []):
            self.assertIs(shows_faults(PROBLEM, 0, (fewer, ((5, 0, 0), 0))), False)
        self.assertIs(shows_faults(PROBLEM, 0, (None, ((4, 0, 0), 0))), False)
        self.assertIs(shows_faults(PROBLEM, 1, (None, ((5, 0, 0), 0))), False)

    def test_no_tree_for_one_fewer(self):
        lying = SEEN + [Observation(2, (0, 0, 0), 7, 0, None)]
        problem = Problem(lying, LINE, 0, 0, 0)
        self.assertIs(shows_faults(problem, 1, (tree(problem), ((5, 0, 0), 0))), True)
        for fewer in STRANGE:
            self.assertIs(shows_faults(problem, 1, (fewer, ((5, 0, 0), 0))), False)

    def test_states_that_are_none(self):
        free = Problem([], ((0, 8), (1, 1), (0, 1)), 0, 1, 0)
        self.assertIs(shows_faults(free, 0, (None, ((1, 1, 1), 1))), True)
        for state in [((9, 1, 1), 1), ((-1, 1, 1), 1), ((1, 0, 1), 1), ((1, 1, 2), 1), ((1, 1, 1), 2), ((1, 1, 1), -1),
                      ((True, 1, 1), 1), ((1, True, 1), 1), ((1, 1, True), 1), ((1, 1, 1), True), ((1, 1, 1), False),
                      ([1, 1, 1], 1), [(1, 1, 1), 1], ((1, 1), 1), ((1, 1, 1, 1), 1), ((1, 1, 1),), ((1, 1, 1), 1, 1),
                      (1, 1), (None, 1), ((1, 1, 1), None), ((1, 1, "1"), 1), ((1, 1, 1), "1"), ((1, 1, None), 1),
                      None, (), "xy", 7, ("xyz", 1)]:
            self.assertIs(shows_faults(free, 0, (None, state)), False, state)

    def test_other_shapes(self):
        state = ((5, 0, 0), 0)
        for paper in STRANGE + [[None, state], (None,), (None, state, None), (state, None), state, PAPER, "xy"]:
            self.assertIs(shows_faults(PROBLEM, 0, paper), False)
            self.assertIs(shows_faults(PROBLEM, 1, paper), False)

    def test_the_arguments_are_as_before(self):
        for problem in problems(160, 20):
            before = copy.deepcopy(problem)
            faults_paper(problem)
            shown(problem, tree(problem))
            shows_faults(problem, 1, faults_paper(problem))
            shown_verdicts(problem, tree(problem))
            self.assertEqual(problem, before)
            self.assertEqual(points_of(problem.box), points_of(before.box))


if __name__ == "__main__":
    unittest.main()
