"""Judging: papers of anybody that show the places of a problem, or its least faults, are checked without a search."""

from rangekeep.boxes import cut, volume
from rangekeep.faults import best_state, verdicts_from
from rangekeep.fixing import Problem, is_solution, needed, reach, senders, tree
from rangekeep.forms import is_state_of, is_tuple_of, is_whole


def shown(problem, paper):
    """Return the places that a tree shows, ascending, or None if it does not show the solutions."""
    depth = needed(problem)
    points = []
    # A list of what is still to be looked at, as a tree of anybody may be deeper than calls can be.
    ahead = [(problem.box, paper)]
    while ahead:
        box, node = ahead.pop()
        if _is_cut(box, node):
            _, axis, at, first, second = node
            low, high = cut(box, axis, at)
            ahead.append((high, second))
            ahead.append((low, first))
        elif not _is_end(box, node, reach(problem, box) >= depth):
            return None
        elif node == ("place",):
            points.append(tuple([low for low, _ in box]))
    return sorted(points)


def _is_cut(box, node):
    """Tell whether a part of a paper is a cut of a box, whatever its two trees are."""
    if not is_tuple_of(node, 5) or node[0] != "cut":
        return False
    axis, at = node[1], node[2]
    if not is_whole(axis) or not 0 <= axis <= 2 or not is_whole(at):
        return False
    low, high = box[axis]
    return low <= at < high


def _is_end(box, node, is_reached):
    """Tell whether a part of a paper is a right "out" or "place"."""
    if node == ("out",):
        return not is_reached
    return node == ("place",) and is_reached and volume(box) == 1


def shown_verdicts(problem, paper):
    """Return the verdicts of the senders, if a tree shows the places, otherwise None."""
    points = shown(problem, paper)
    return None if points is None else verdicts_from(problem, points)


def faults_paper(problem):
    """Return a paper for the least faults of a problem: that one fewer are too few, and a solution."""
    served, state = best_state(problem)
    faults = len(senders(problem)) - served
    return (None if faults == 0 else tree(_with_faults(problem, faults - 1))), state


def shows_faults(problem, faults, paper):
    """Tell whether a paper shows that a number is the least faults of a problem."""
    if not is_tuple_of(paper, 2):
        return False
    fewer, state = paper
    if not is_state_of(problem, state):
        return False
    point, offset = state
    if not is_solution(_with_faults(problem, faults), point, offset):
        return False
    if faults == 0:
        return fewer is None
    return shown(_with_faults(problem, faults - 1), fewer) == []


def _with_faults(problem, faults):
    return Problem(problem.observations, problem.box, problem.least, problem.greatest, faults)
