"""Papers of tracks: what a journey rules out, for judges that make no search."""

from rangekeep.covers import bare_cost, cost, cover_of, front_trees
from rangekeep.fixing import MOST_PLACES, offsets_at, tree
from rangekeep.forms import is_state, is_tuple_of
from rangekeep.judging import shown
from rangekeep.tracks import Journey, fewest_misses, fitting_offsets, front_of, fronts_about, is_track, \
    known_moments, spread


def out_paper(journey, time, state):
    """Return a paper that a state does not fit at a time, or None if it fits."""
    known = known_moments(journey)
    front, back = fronts_about(journey, known, time)
    point, offset = state
    if fitting_offsets(front, back, journey.misses, time, (point, [(offset, offset)])):
        return None
    return _trees(journey, known), _covers(front, journey.misses), _covers(back, journey.misses)


def _trees(journey, known):
    """Return the trees of a paper: one for each known moment."""
    told = [None] * len(journey.moments)
    for k, _, _ in known:
        _, problem = journey.moments[k]
        told[k] = tree(problem)
    return tuple(told)


def _covers(front, misses):
    """Return the front of a paper, whose covers hold just what they must hold."""
    told = []
    for i in range(front.many()):
        covers = [cover_of(front.layer(i, missed)) for missed in range(min(i, misses) + 1)]
        told.append(tuple(covers + covers[-1:] * (misses - i)))
    return tuple(told)


def shows_out(journey, time, state, paper):
    """Tell whether a paper shows that a state does not fit at a time."""
    if not is_tuple_of(paper, 3):
        return False
    trees, front, back = paper
    used = _used(journey, trees)
    if used is None:
        return False
    before = [row for row in used if row[0] <= time]
    behind = [row for row in used[::-1] if row[0] > time]
    first, second = front_trees(journey, before, front), front_trees(journey, behind, back)
    if first is None or second is None:
        return False
    return cost(journey, before, first, time, state) + cost(journey, behind, second, time, state) > journey.misses


def _used(journey, trees):
    """Return the time and the solutions of each used moment, or None if these are no trees of a paper."""
    if not is_tuple_of(trees, len(journey.moments)):
        return None
    told = []
    for (time, problem), paper in zip(journey.moments, trees):
        if paper is not None:
            points = None if problem is None else shown(problem, paper)
            if points is None or len(points) > MOST_PLACES:
                return None
            told.append((time, [(point, offsets_at(problem, point)) for point in points]))
    return told


def none_paper(journey):
    """Return a paper that a journey has no track, or None if it has one."""
    known = known_moments(journey)
    front = front_of(journey, known)
    missed, _ = fewest_misses(front, journey.misses)
    if missed <= journey.misses:
        return None
    return _trees(journey, known), _covers(front, journey.misses)


def shows_none(journey, paper):
    """Tell whether a paper shows that a journey has no track."""
    if not is_tuple_of(paper, 2):
        return False
    trees, front = paper
    used = _used(journey, trees)
    if used is None:
        return False
    told = front_trees(journey, used, front)
    return told is not None and bare_cost(used, told) > journey.misses


def misses_paper(journey):
    """Return a paper for the least misses of a journey: that one fewer are too few, and a track."""
    known = known_moments(journey)
    front = front_of(journey, known)
    misses, states = fewest_misses(front, front.many())
    fewer = None if misses == 0 else (_trees(journey, known), _covers(front, misses - 1))
    return fewer, tuple(spread(journey, known, states))


def shows_misses(journey, misses, paper):
    """Tell whether a paper shows that a number is the least misses of a journey."""
    if not is_tuple_of(paper, 2):
        return False
    fewer, track = paper
    if not isinstance(track, tuple) or not all([state is None or is_state(state) for state in track]):
        return False
    if misses == 0:
        is_least = fewer is None
    else:
        is_least = shows_none(_with_misses(journey, misses - 1), fewer)
    return is_least and is_track(_with_misses(journey, misses), list(track))


def _with_misses(journey, misses):
    return Journey(journey.moments, journey.speed, journey.drift, misses)
