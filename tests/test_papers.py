import copy
import random
import unittest
from itertools import product

from helpers import STRANGE, changed, spoiled, states_of
from journeys import LINE, PARTS, at_x, nowhere, ordered, random_journeys, state, steady, too_many, tried, \
    written_linked
from rangekeep.fixing import Problem, tree
from rangekeep.offsets import Observation
from rangekeep.papers import misses_paper, none_paper, out_paper, shows_misses, shows_none, shows_out
from rangekeep.tracks import Journey, is_track, least_misses


def states_in(cover):
    """Point 18.2: all states that a cover holds."""
    return [(point, offset) for box, low, high in cover
            for point in product(*[range(first, last + 1) for first, last in box]) for offset in range(low, high + 1)]


def leads(journey, elapsed, cover, here):
    """Whether a state is linked with some state that a cover holds."""
    return any(written_linked(journey, elapsed, other, here) for other in states_in(cover))


def must_hold(journey, used, front, i, m, here):
    """Point 18.4: whether the cover m of the moment i must hold a solution."""
    if i <= m:
        return True
    for j in range(i):
        n = m - (i - j - 1)
        if n >= 0 and leads(journey, abs(used[i][0] - used[j][0]), front[j][n], here):
            return True
    return False


def written_right(journey, used, front):
    return all(here in states_in(front[i][m])
               for i, (_, problem) in enumerate(used) for m in range(journey.misses + 1)
               for here in states_of(problem) if must_hold(journey, used, front, i, m, here))


def written_cost(journey, used, front, time, here):
    """Point 18.5."""
    costs = [len(used)]
    for i, (at, _) in enumerate(used):
        for m in range(journey.misses + 1):
            if leads(journey, abs(time - at), front[i][m], here):
                costs.append(m + len(used) - 1 - i)
    return min(costs)


def written_bare_cost(used, front):
    return min([len(used)] + [m + len(used) - 1 - i for i in range(len(used)) for m, cover in enumerate(front[i])
                              if len(cover) > 0])


def parts_at(used, time):
    return [row for row in used if row[0] <= time], [row for row in used if row[0] > time][::-1]


def block(here):
    """The block of one state."""
    point, offset = here
    return tuple((at, at) for at in point), offset, offset


def block_about(states):
    """The least block that holds some states."""
    sides = tuple((min(row), max(row)) for row in zip(*[point for point, _ in states]))
    offsets = [offset for _, offset in states]
    return sides, min(offsets), max(offsets)


def some_cover(rng, states):
    """A cover of the states, in one of several ways."""
    if not states:
        return ()
    kind = rng.choice(("each", "each", "about", "twice"))
    if kind == "about":
        return (block_about(states),)
    told = [block(here) for here in states]
    if kind == "twice":
        told = told + [block_about(rng.sample(states, min(2, len(states))))]
    rng.shuffle(told)
    return tuple(told)


def some_front(rng, journey, used, mistakes):
    """A front that is right, or one with some mistakes."""
    front = []
    for i, (_, problem) in enumerate(used):
        covers = []
        for m in range(journey.misses + 1):
            states = [here for here in states_of(problem) if must_hold(journey, used, front, i, m, here)]
            if states and rng.random() < mistakes:
                states.remove(rng.choice(states))
            covers.append(some_cover(rng, states))
        front.append(tuple(covers))
    return tuple(front)


def used_of(rng, journey, share):
    """The trees of a paper that uses about a share of the moments that have a problem, and the used moments."""
    trees, used = [], []
    for time, problem in journey.moments:
        is_used = problem is not None and rng.random() < share
        trees.append(tree(problem) if is_used else None)
        if is_used:
            used.append((time, problem))
    return tuple(trees), used


def some_state(rng):
    """A state about the moments of random_journeys."""
    axes = rng.sample(range(3), 3)
    return ordered((rng.randint(-1, 6), rng.randint(-1, 2), 5), axes), rng.randint(-3, 3)


class OutPaperTest(unittest.TestCase):
    def test_own_papers_just_for_states_that_do_not_fit(self):
        """Points 18.6 and 17.6, against trying all tracks."""
        rng = random.Random(186)
        many = {}
        for journey in random_journeys(1861, 250):
            _, tracks = tried(journey)
            for time in [time for time, _ in journey.moments] + [rng.randint(-6, 13)]:
                here = some_state(rng)
                fits = any(all(other is None or written_linked(journey, abs(time - moment[0]), other, here)
                               for moment, other in zip(journey.moments, track)) for track in tracks)
                paper = out_paper(journey, time, here)
                self.assertEqual(paper is None, fits)
                if not fits:
                    self.assertIs(shows_out(journey, time, here, paper), True)
                many[fits] = many.get(fits, 0) + 1
        self.assertGreater(min(many.values()), 200)

    def test_papers_that_are_made_otherwise(self):
        """Points 18.3 to 18.6: right and wrong fronts, with moments that are not used."""
        rng = random.Random(1862)
        many = {}
        for journey in random_journeys(1863, 1000):
            trees, used = used_of(rng, journey, 0.9)
            time, here = rng.randint(-4, 10), some_state(rng)
            before, behind = parts_at(used, time)
            mistakes = rng.choice((0, 0.05, 0.2))
            front, back = [some_front(rng, journey, part, mistakes) for part in (before, behind)]
            is_right = written_right(journey, before, front) and written_right(journey, behind, back)
            costs = (written_cost(journey, before, front, time, here) + written_cost(journey, behind, back, time, here))
            told = shows_out(journey, time, here, (trees, front, back))
            self.assertIs(told, is_right and costs > journey.misses)
            if told:
                # What a paper shows is so.
                self.assertIsNotNone(out_paper(journey, time, here))
            kind = is_right, costs > journey.misses
            many[kind] = many.get(kind, 0) + 1
        self.assertEqual(len(many), 4)
        self.assertGreater(min(many.values()), 15)

    def test_a_paper_with_one_part_that_is_wrong(self):
        journey = steady([(0, at_x(2)), (2, at_x(3, 1)), (6, at_x(8))], misses=1)
        time, here = 4, state(-3)
        paper = out_paper(journey, time, here)
        self.assertIs(shows_out(journey, time, here, paper), True)
        for other in spoiled(paper):
            self.assertIs(shows_out(journey, time, here, other), False, other)

    def test_blocks_with_sides_that_are_turned(self):
        journey = steady([(0, at_x(2))])
        paper = out_paper(journey, 1, state(5))
        for box, low, high in [(((2, 1), (0, 0), (0, 0)), 0, 0), (((2, 2), (0, -1), (0, 0)), 0, 0),
                               (((2, 2), (0, 0), (1, 0)), 0, 0), (((2, 2), (0, 0), (0, 0)), 1, 0)]:
            more = paper[1][0][0] + ((box, low, high),)
            self.assertIs(shows_out(journey, 1, state(5), changed(paper, (1, 0, 0), more)), False)

    def test_blocks_of_any_integers(self):
        journey = steady([(0, at_x(2))])
        trees = (tree(at_x(2)),)
        huge = 10 ** 30
        for box, low, high, is_shown in [
                (((-huge, 3), (0, 0), (0, 0)), 0, 0, True), (((-huge, 4), (0, 0), (0, 0)), 0, 0, False),
                (((2, 2), (-huge, huge), (-huge, huge)), -huge, huge, True),
                (((3, huge), (0, 0), (0, 0)), 0, 0, False), (((2, 2), (0, 0), (0, 0)), 1, huge, False),
                (((2, 2), (1, huge), (0, 0)), 0, 0, False), (((2, 2), (0, 0), (-huge, -1)), 0, 0, False)]:
            paper = (trees, ((((box, low, high),),),), ())
            self.assertIs(shows_out(journey, 1, state(5), paper), is_shown, box)
        far = ((huge, huge), (0, 0), (0, 0))
        with_far = (trees, (((block(state(2)), (far, 0, 0)),),), ())
        self.assertIs(shows_out(journey, 1, state(5), with_far), True)

    def test_no_moments(self):
        for misses in (0, 1, 5):
            journey = steady([], misses=misses)
            self.assertIsNone(out_paper(journey, 3, state(99)))
            self.assertIs(shows_out(journey, 3, state(99), ((), (), ())), False)

    def test_a_time_at_a_moment_counts_with_the_front(self):
        """18.6: moments whose times are not greater than the time."""
        journey = steady([(3, at_x(2))])
        trees, covers = (tree(at_x(2)),), ((block(state(2)),),)
        for time, papers in [(2, [False, True]), (3, [True, False]), (4, [True, False])]:
            self.assertEqual([shows_out(journey, time, state(5), (trees, front, back))
                              for front, back in (((covers,), ()), ((), (covers,)))], papers)

    def test_the_back_is_descending(self):
        journey = steady([(3, at_x(2)), (5, at_x(4))])
        trees = (tree(at_x(2)), tree(at_x(4)))
        first, second = ((block(state(2)),),), ((block(state(4)),),)
        paper = (trees, (), (second, first))
        self.assertEqual(out_paper(journey, 0, state(7)), paper)
        self.assertIs(shows_out(journey, 0, state(7), paper), True)
        self.assertIs(shows_out(journey, 0, state(7), (trees, (), (first, second))), False)

    def test_costs(self):
        """18.5: a state that is linked only with earlier moments costs the misses of those behind them."""
        moments = [(0, at_x(2)), (1, at_x(8)), (2, at_x(8))]
        for misses, fits in [(0, False), (1, False), (2, True), (3, True)]:
            journey = steady(moments, misses=misses)
            paper = out_paper(journey, 3, state(5))
            self.assertEqual(paper is None, fits)
            if paper is not None:
                self.assertIs(shows_out(journey, 3, state(5), paper), True)
                self.assertIs(shows_out(journey, 3, state(7), paper), not misses)

    def test_a_known_moment_that_is_not_used(self):
        moments = [(0, at_x(2)), (1, at_x(3)), (2, at_x(4))]
        journey = steady(moments)
        paper = out_paper(Journey([moments[0], (1, None), moments[2]], PARTS, 0, 0), 3, state(6))
        self.assertIs(shows_out(journey, 3, state(6), paper), True)
        self.assertIs(shows_out(journey, 3, state(5), paper), False)
        without = (((None,) * 3), (), ())
        self.assertIs(shows_out(journey, 3, state(6), without), False)

    def test_moments_that_are_open(self):
        crowded = Journey([(0, too_many()), (1, None), (2, at_x(4))], PARTS, 0, 0)
        paper = out_paper(crowded, 3, state(6))
        self.assertEqual(paper[0][:2], (None, None))
        self.assertIs(shows_out(crowded, 3, state(6), paper), True)
        # A tree with more than 2000 places, and one for a moment without a problem.
        halves = [tree(Problem([], ((low, high), (0, 0), (0, 0)), 0, 0, 0)) for low, high in ((0, 1000), (1001, 2000))]
        many = ("cut", 0, 1000, halves[0], halves[1])
        every = (((0, 2000), (0, 0), (0, 0)), 0, 0)
        alone = Journey([(0, too_many())], PARTS, 0, 0)
        self.assertIs(shows_out(alone, 3, state(-9), ((many,), (((every,),),), ())), False)
        just = Journey([(0, Problem([], ((0, 1999), (0, 0), (0, 0)), 0, 0, 0))], PARTS, 0, 0)
        full = tree(just.moments[0][1])
        self.assertIs(shows_out(just, 3, state(-9), ((full,), (((every,),),), ())), True)
        nothing = Journey([(0, None)], PARTS, 0, 0)
        for one in (("out",), ("place",), (), False, 0):
            self.assertIs(shows_out(nothing, 3, state(-9), ((one,), (((),),), ())), False)

    def test_a_moment_without_solutions(self):
        journey = steady([(0, nowhere()), (2, at_x(4))])
        trees = (tree(nowhere()), tree(at_x(4)))
        # Nothing can lead to the second moment, so that its cover may be empty.
        for second in ((), (block(state(4)),)):
            self.assertIs(shows_out(journey, 3, state(7), (trees, (((),), (second,)), ())), True)
        self.assertIs(shows_out(journey, 3, state(4), (trees, (((),), ((),)), ())), True)
        self.assertEqual(out_paper(journey, 3, state(4))[1], (((),), ((),)))

    def test_points_with_several_intervals(self):
        seen = [Observation(0, (0, 0, 0), 3, 0, 6)]
        problem = Problem(seen, ((3, 3), (0, 0), (0, 0)), 0, 12, 0)
        journey = Journey([(0, problem)], 0, PARTS, 0)
        here = ((3, 0, 0), 3)
        paper = out_paper(journey, 2, here)
        self.assertEqual(len(paper[1][0][0]), 3)
        self.assertIs(shows_out(journey, 2, here, paper), True)
        self.assertIsNone(out_paper(journey, 3, here))
        for k in range(3):
            fewer = changed(paper, (1, 0, 0), paper[1][0][0][:k] + paper[1][0][0][k + 1:])
            self.assertIs(shows_out(journey, 2, here, fewer), False)
        box = ((3, 3), (0, 0), (0, 0))
        for blocks, is_shown in [([(box, 0, 6), (box, 12, 12)], False), ([(box, 0, 0), (box, 6, 12)], True),
                                 ([(box, -99, 0), (box, 6, 8), (box, 8, 99)], True), ([(box, 5, 12)], False),
                                 ([(box, 0, 0), (box, 6, 11)], False)]:
            self.assertIs(shows_out(journey, 2, here, changed(paper, (1, 0, 0), tuple(blocks))), is_shown)


class NonePaperTest(unittest.TestCase):
    def test_own_papers_just_for_journeys_without_a_track(self):
        many = {}
        for journey in random_journeys(187, 500):
            _, tracks = tried(journey)
            paper = none_paper(journey)
            self.assertEqual(paper is None, len(tracks) > 0)
            if paper is not None:
                self.assertIs(shows_none(journey, paper), True)
            many[len(tracks) > 0] = many.get(len(tracks) > 0, 0) + 1
        self.assertGreater(min(many.values()), 60)

    def test_papers_that_are_made_otherwise(self):
        """Points 18.5 and 18.7."""
        rng = random.Random(1871)
        many = {}
        for journey in random_journeys(1872, 1500):
            trees, used = used_of(rng, journey, 0.95)
            front = some_front(rng, journey, used, rng.choice((0, 0.05, 0.2)))
            is_right, bare = written_right(journey, used, front), written_bare_cost(used, front)
            told = shows_none(journey, (trees, front))
            self.assertIs(told, is_right and bare > journey.misses)
            if told:
                self.assertIsNotNone(none_paper(journey))
            kind = is_right, bare > journey.misses
            many[kind] = many.get(kind, 0) + 1
        self.assertEqual(len(many), 4)
        self.assertGreater(min(many.values()), 15)

    def test_no_moments(self):
        self.assertIsNone(none_paper(steady([])))
        self.assertIs(shows_none(steady([]), ((), ())), False)

    def test_a_paper_with_one_part_that_is_wrong(self):
        journey = steady([(0, at_x(2)), (1, at_x(5))])
        paper = none_paper(journey)
        self.assertIs(shows_none(journey, paper), True)
        for other in spoiled(paper):
            self.assertIs(shows_none(journey, other), False, other)

    def test_the_bare_cost_counts_blocks(self):
        journey = steady([(0, at_x(2)), (1, at_x(5))])
        trees, first = (tree(at_x(2)), tree(at_x(5))), (block(state(2)),)
        self.assertIs(shows_none(journey, (trees, ((first,), ((),)))), True)
        # A block that holds no solution counts, too.
        self.assertIs(shows_none(journey, (trees, ((first,), ((block(state(77)),),)))), False)
        self.assertIs(shows_none(journey, (trees, (((),), ((),)))), False)
        one = steady(journey.moments, misses=1)
        self.assertIsNone(none_paper(one))
        for second in ((), (block(state(5)),)):
            self.assertIs(shows_none(one, (trees, ((first,) * 2, ((), second)))), False)

    def test_the_number_of_covers(self):
        journey = steady([(0, at_x(0)), (1, at_x(4)), (2, at_x(8))], misses=1)
        paper = none_paper(journey)
        self.assertIs(shows_none(journey, paper), True)
        for misses in (0, 2):
            self.assertIs(shows_none(steady(journey.moments, misses=misses), paper), False)

    def test_many_states(self):
        moments = [(10 * k, Problem([], ((20 * k, 20 * k + 9), (0, 9), (0, 9)), 0, 3, 0)) for k in range(5)]
        journey = Journey(moments, PARTS, 0, 1)
        self.assertIs(shows_none(journey, none_paper(journey)), True)
        coarse = [tuple((problem.box, 0, 3) for _ in range(1)) for _, problem in moments]
        trees = tuple(tree(problem) for _, problem in moments)
        front = tuple(((coarse[k] if k == 0 else ()), coarse[k]) if k < 2 else ((), ()) for k in range(5))
        self.assertIs(shows_none(journey, (trees, front)), True)
        self.assertIs(shows_none(journey, (trees, front[:1] + (((), ()),) + front[2:])), False)


class MissesPaperTest(unittest.TestCase):
    def test_own_papers(self):
        many = {}
        for journey in random_journeys(188, 200):
            number, paper = least_misses(journey), misses_paper(journey)
            self.assertIs(shows_misses(journey, number, paper), True)
            self.assertEqual(paper[0] is None, number == 0)
            for other in (number - 1, number + 1, -1, -2, 99):
                if other != number:
                    self.assertIs(shows_misses(journey, other, paper), False)
            many[number] = many.get(number, 0) + 1
        self.assertGreater(min(many[0], many[1], many[2]), 15)

    def test_the_own_number_of_the_journey_does_not_count(self):
        moments = [(0, at_x(0)), (1, at_x(8)), (2, at_x(2))]
        for misses in (0, 1, 3):
            journey = steady(moments, misses=misses)
            self.assertIs(shows_misses(journey, 1, misses_paper(steady(moments))), True)

    def test_more_misses_than_5(self):
        journey = steady([(k, at_x(8 * (k % 2))) for k in range(16)], speed=0, misses=3)
        paper = misses_paper(journey)
        self.assertEqual([shows_misses(journey, number, paper) for number in (5, 7, 8, 9)], [False, False, True, False])
        alone = steady([(k, nowhere()) for k in range(9)])
        self.assertIs(shows_misses(alone, 9, misses_paper(alone)), True)
        self.assertEqual(misses_paper(alone)[1], (None,) * 9)

    def test_the_number_0(self):
        journey = steady([(0, at_x(2)), (3, None), (5, at_x(4, 1))])
        track = (state(2), None, state(5))
        self.assertIs(shows_misses(journey, 0, (None, track)), True)
        for fewer in (False, 0, (), [], none_paper(steady([(0, nowhere())])), ((), ())):
            self.assertIs(shows_misses(journey, 0, (fewer, track)), False)
        self.assertIs(shows_misses(journey, 1, (None, track)), False)
        self.assertIs(shows_misses(steady([]), 0, (None, ())), True)
        self.assertIs(shows_misses(steady([]), 1, (((), ()), ())), False)
        self.assertIs(shows_misses(steady([]), -1, (((), ()), ())), False)

    def test_the_track(self):
        journey = steady([(0, at_x(2)), (1, at_x(8)), (3, at_x(4, 1))])
        fewer = none_paper(journey)
        for track, is_shown in [((state(2), None, state(4)), True), ((state(2), None, state(5)), True),
                                ((state(2), None, state(6)), False), ((state(2), None, None), False),
                                ((None, state(8), state(5)), False), ((state(2), None), False),
                                ((state(2), None, state(4), None), False), ((), False)]:
            self.assertIs(shows_misses(journey, 1, (fewer, track)), is_shown)
            self.assertEqual(is_track(steady(journey.moments, misses=1), list(track)), is_shown)
        for track in [[state(2), None, state(4)], None, "abc", 3, (state(2), False, state(4)), (state(2), (), state(4)),
                      (list(state(2)), None, state(4)), (([2, 0, 0], 0), None, state(4)),
                      (((2, 0, 0), False), None, state(4)), (((2, False, 0), 0), None, state(4)),
                      (((2, 0), 0), None, state(4)), (((2, 0, 0), 0, 0), None, state(4)),
                      ((2, 0), None, state(4)), ("ab", None, state(4)), (((2, 0, "0"), 0), None, state(4))]:
            self.assertIs(shows_misses(journey, 1, (fewer, track)), False)

    def test_other_shapes(self):
        journey = steady([(0, at_x(2)), (1, at_x(8))])
        fewer, track = misses_paper(journey)
        self.assertIs(shows_misses(journey, 1, (fewer, track)), True)
        for paper in STRANGE + [(), [fewer, track], (fewer,), (fewer, track, None), (track, fewer),
                                (list(fewer), track),
                                (None, track), (fewer, fewer)]:
            self.assertIs(shows_misses(journey, 1, paper), False)


class UnchangedTest(unittest.TestCase):
    def test_the_arguments_are_as_before(self):
        for journey in random_journeys(180, 20):
            before = copy.deepcopy(journey)
            paper = out_paper(journey, 3, state(50))
            if paper is not None:
                shows_out(journey, 3, state(50), paper)
            if none_paper(journey) is not None:
                shows_none(journey, none_paper(journey))
            shows_misses(journey, 1, misses_paper(journey))
            self.assertEqual(journey, before)
        self.assertEqual(LINE, ((0, 8), (0, 0), (0, 0)))


if __name__ == "__main__":
    unittest.main()
