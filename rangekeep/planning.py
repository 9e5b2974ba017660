"""Planning: which beacons a receiver should listen to, and papers of anybody that no choice is better."""

from itertools import combinations

from rangekeep.boxes import distance
from rangekeep.forms import is_state_of, is_tuple_of
from rangekeep.offsets import deepest


class Plan:
    """Where beacons are, where a receiver can be, and how many beacons it can listen to."""

    def __init__(self, points, box, least, greatest, slack, count):
        self.points = list(points)
        self.box = box
        self.least = least
        self.greatest = greatest
        self.slack = slack
        self.count = count

    def __eq__(self, other):
        return (isinstance(other, Plan) and self.points == other.points and self.box == other.box
                and self.least == other.least and self.greatest == other.greatest and self.slack == other.slack
                and self.count == other.count)


def is_confused(plan, choice, first, second):
    """Tell whether two states are confused by a choice."""
    (p, a), (q, b) = first, second
    return all([abs(distance(p, plan.points[i]) + a - distance(q, plan.points[i]) - b) <= plan.slack for i in choice])


def doubt(plan, choice, state):
    """Return the doubt of a choice at a state."""
    return len(_confused_states(plan, choice, state))


def _confused_states(plan, choice, state):
    """Return one state of each point of the box that has some state with which the state is confused."""
    point, offset = state
    ranges = [distance(point, at) for at in plan.points]
    told = []
    for other, distances in _table(plan):
        away = [ranges[i] + offset - distances[i] for i in choice]
        low = max(plan.least, max(away, default=plan.least) - plan.slack)
        if low <= min(plan.greatest, min(away, default=plan.greatest) + plan.slack):
            told.append((other, low))
    return told


def _table(plan):
    """Return all points of the box, ascending, each with its distances to the beacons."""
    (a, b), (c, d), (e, f) = plan.box
    points = [(x, y, z) for x in range(a, b + 1) for y in range(c, d + 1) for z in range(e, f + 1)]
    return [(point, [distance(point, at) for at in plan.points]) for point in points]


def worst_doubt(plan, choice):
    """Return the greatest doubt of a choice at a state."""
    table = _table(plan)
    found, _ = _worst(plan, table, choice, len(table))
    return found


def _worst(plan, table, choice, enough):
    """Return the greatest doubt and a state that has it, or the first doubt that is enough, and its state."""
    found, state = 0, None
    for point, ranges in table:
        depth, offset = deepest([_doubted(plan, choice, ranges, others) for _, others in table])
        if depth > found:
            found, state = depth, (point, offset)
        if found >= enough:
            break
    return found, state


def _doubted(plan, choice, ranges, others):
    """Return the offsets with which a point with these distances is confused with one with other distances."""
    away = [ranges[i] - others[i] for i in choice]
    least, greatest = min(away, default=0), max(away, default=0)
    # The other point's offset must be nearer than the slack to all of these sums, and one of the plan.
    low = max(plan.least, plan.least - plan.slack - least)
    high = min(plan.greatest, plan.greatest + plan.slack - greatest)
    return [(low, high)] if low <= high and greatest - least <= 2 * plan.slack else []


def best(plan):
    """Return the best choice of a plan, and its worst doubt."""
    table = _table(plan)
    # No doubt is as great as this.
    found, least = None, len(table) + 1
    for choice in _choices(len(plan.points), plan.count):
        worst, _ = _worst(plan, table, choice, least)
        if worst < least:
            found, least = choice, worst
    return found, least


def _choices(many, count):
    """Return all choices of so many beacons, ascending."""
    return list(combinations(range(many), count))


def bound(plan, number):
    """Return a bound for a number, or None if there is none."""
    return _grown(plan, _table(plan), number, (), tuple(range(len(plan.points))))


def _grown(plan, table, number, taken, left):
    """Return the node about the taken beacons and those that are left, which are open; or None if there is none."""
    if len(taken) == plan.count:
        left = ()
    if len(taken) + len(left) < plan.count:
        return ("none",)
    found, state = _worst(plan, table, taken + left, number)
    if found >= number:
        return "low", state, tuple(_confused_states(plan, taken + left, state)[:number])
    if not left:
        return None
    first = _grown(plan, table, number, taken + left[:1], left[1:])
    second = None if first is None else _grown(plan, table, number, taken, left[1:])
    return None if second is None else ("split", first, second)


def is_bound(plan, number, paper):
    """Tell whether a paper is a bound for a number."""
    return _is_node(plan, number, paper, (), tuple(range(len(plan.points))))


def _is_node(plan, number, node, taken, left):
    """Tell whether a value is a node about the taken beacons and those that are left, which are open."""
    if len(taken) == plan.count:
        left = ()
    if node == ("none",):
        return len(taken) + len(left) < plan.count
    if not is_tuple_of(node, 3):
        return False
    word, first, second = node
    if word == "low":
        return _is_low(plan, number, taken + left, first, second)
    return (word == "split" and len(left) > 0 and _is_node(plan, number, first, taken + left[:1], left[1:])
            and _is_node(plan, number, second, taken, left[1:]))


def _is_low(plan, number, choice, state, others):
    """Tell whether other states show that the doubt of a choice at a state is at least a number."""
    if not is_state_of(plan, state) or not isinstance(others, tuple) or len(others) < number:
        return False
    if not all([is_state_of(plan, other) for other in others]):
        return False
    if len(set([point for point, _ in others])) < len(others):
        return False
    return all([is_confused(plan, choice, state, other) for other in others])


def shows_best(plan, choice, paper):
    """Tell whether a paper shows that no choice of a length that is the count is better than a choice."""
    return len(choice) == plan.count and is_bound(plan, worst_doubt(plan, choice), paper)
