"""Fixing: the exact set of places that fit observations, also if some senders lie."""

from rangekeep.boxes import box_about, cut, distance, middle, near_far
from rangekeep.errors import TooMany
from rangekeep.offsets import at_least, common, deepest, holds, possible

MOST_PLACES = 2000


class Problem:
    """What was observed, where a receiver can be, and how many senders may lie."""

    def __init__(self, observations, box, least, greatest, faults):
        self.observations = list(observations)
        self.box = box
        self.least = least
        self.greatest = greatest
        self.faults = faults

    def __eq__(self, other):
        return (isinstance(other, Problem) and self.observations == other.observations and self.box == other.box
                and self.least == other.least and self.greatest == other.greatest and self.faults == other.faults)


def senders(problem):
    """Return the senders, ascending."""
    return sorted(set([one.sender for one in problem.observations]))


def needed(problem):
    """Return how many senders must be served by a solution; it may be 0 or less."""
    return len(senders(problem)) - problem.faults


def rows(problem, box):
    """Return the intervals of each sender for a box, ascending by the senders."""
    told = {}
    for one in problem.observations:
        offsets = possible(one, near_far(box, one.point), problem.least, problem.greatest)
        if one.sender in told:
            offsets = common(told[one.sender], offsets)
        told[one.sender] = offsets
    return [told[sender] for sender in sorted(told)]


def reach(problem, box):
    """Return the greatest depth of an offset for a box."""
    depth, _ = deepest(rows(problem, box))
    return depth


def is_solution(problem, point, offset):
    """Tell whether a state is a solution."""
    missed = [one.sender for one in problem.observations if not holds(one, distance(point, one.point), offset)]
    return len(set(missed)) <= problem.faults


def offsets_at(problem, point):
    """Return the intervals of the offsets with which a point is a solution."""
    depth = needed(problem)
    if depth <= 0:
        return [(problem.least, problem.greatest)]
    return at_least(rows(problem, box_about([point])), depth)


def places(problem):
    """Return the points that are solutions, ascending."""
    depth = needed(problem)
    found, ahead = [], [problem.box]
    while ahead:
        box = ahead.pop()
        if reach(problem, box) >= depth:
            half = middle(box)
            if half is None:
                found.append(tuple([low for low, _ in box]))
            else:
                axis, at = half
                ahead.extend(cut(box, axis, at))
        if len(found) > MOST_PLACES:
            raise TooMany(MOST_PLACES)
    return sorted(found)


def tree(problem):
    """Return the tree of the problem, which shows its places."""
    grown, _ = _grown(problem, needed(problem), problem.box, 0)
    return grown


def _grown(problem, depth, box, many):
    """Return the tree for a box, and the number of the places in it and of as many before it."""
    if reach(problem, box) < depth:
        return ("out",), many
    half = middle(box)
    if half is None:
        if many == MOST_PLACES:
            raise TooMany(MOST_PLACES)
        return ("place",), many + 1
    axis, at = half
    low, high = cut(box, axis, at)
    first, many = _grown(problem, depth, low, many)
    second, many = _grown(problem, depth, high, many)
    return ("cut", axis, at, first, second), many
