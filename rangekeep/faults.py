"""Faults: which senders lie, and how many at the least."""

from heapq import heappop, heappush

from rangekeep.boxes import box_about, cut, middle, volume
from rangekeep.fixing import offsets_at, places, reach, rows, senders
from rangekeep.offsets import common, deepest


def verdicts(problem):
    """Return what is known of each sender, ascending: right, wrong or open."""
    return verdicts_from(problem, places(problem))


def verdicts_from(problem, points):
    """Return the verdicts, where all places of the problem are known."""
    always = [True] * len(senders(problem))
    never = list(always)
    for point in points:
        solved = offsets_at(problem, point)
        for k, offsets in enumerate(rows(problem, box_about([point]))):
            served = common(solved, offsets)
            always[k] = always[k] and served == solved
            never[k] = never[k] and not served
    return [verdict(a, b) for a, b in zip(always, never)]


def verdict(always, never):
    """Return the verdict of what holds always, or never; both are so only where nothing is known."""
    if always == never:
        return "open"
    return "right" if always else "wrong"


def least_faults(problem):
    """Return the least number of faults with which the problem has a solution."""
    served, _ = best_state(problem)
    return len(senders(problem)) - served


def best_state(problem):
    """Return the greatest number of senders that a state serves, and such a state.

    The box with the greatest reach is halved first, so that no box is looked
    into whose reach is less than this number; of equal ones the smallest first.
    """
    ahead = [_entry(problem, problem.box)]
    while True:
        _, _, box = heappop(ahead)
        half = middle(box)
        if half is None:
            return best_at(problem, box)
        axis, at = half
        for part in cut(box, axis, at):
            heappush(ahead, _entry(problem, part))


def _entry(problem, box):
    return -reach(problem, box), volume(box), box


def best_at(problem, box):
    """Return the greatest number of senders that are served at the point of a box, and such a state."""
    served, offset = deepest(rows(problem, box))
    point = tuple([low for low, _ in box])
    return served, (point, problem.least if offset is None else offset)


def extent(problem):
    """Return the least box with all places, and the least and the greatest offset; or None without a solution."""
    points = places(problem)
    if not points:
        return None
    spans = [offsets_at(problem, point) for point in points]
    least = min([offsets[0][0] for offsets in spans])
    greatest = max([offsets[-1][1] for offsets in spans])
    return box_about(points), least, greatest
