"""Tracks: what problems at several moments tell together of a receiver that moves."""

from rangekeep.errors import TooMany
from rangekeep.faults import verdict
from rangekeep.fixing import offsets_at, places
from rangekeep.fronts import Front, leeway
from rangekeep.offsets import at_least
from rangekeep.statesets import both, either, near_state


class Journey:
    """Problems at moments, how a receiver can move between these, and how many of them may be wrong."""

    def __init__(self, moments, speed, drift, misses):
        self.moments = list(moments)
        self.speed = speed
        self.drift = drift
        self.misses = misses

    def __eq__(self, other):
        return (isinstance(other, Journey) and self.moments == other.moments and self.speed == other.speed
                and self.drift == other.drift and self.misses == other.misses)


def solutions(problem):
    """Return the set of the solutions of a problem, or None without a problem, or if it has too many places."""
    if problem is None:
        return None
    try:
        found = places(problem)
    except TooMany:
        return None
    return [(point, offsets_at(problem, point)) for point in found]


def is_linked(journey, elapsed, first, second):
    """Tell whether two states are linked over an elapsed time."""
    far, apart = leeway(journey, elapsed)
    (p, a), (q, b) = first, second
    return abs(a - b) <= apart and max([abs(x - y) for x, y in zip(p, q)]) <= far


def is_track(journey, track):
    """Tell whether a list of states and None is a track."""
    if len(track) != len(journey.moments):
        return False
    missed, last = 0, None
    for (time, problem), state in zip(journey.moments, track):
        states = solutions(problem)
        if state is None:
            missed += 0 if states is None else 1
        elif states is None or near_state(states, state, 0, 0) is None:
            return False
        else:
            if last is not None and not is_linked(journey, time - last[0], last[1], state):
                return False
            last = (time, state)
    return missed <= journey.misses


def known_moments(journey):
    """Return the index, the time and the solutions of each known moment."""
    told = [(k, time, solutions(problem)) for k, (time, problem) in enumerate(journey.moments)]
    return [(k, time, states) for k, time, states in told if states is not None]


def front_of(journey, known):
    """Return a front that has met known moments, in their order."""
    front = Front(journey)
    for _, time, states in known:
        front.meet(time, states)
    return front


def kept(journey):
    """Return the set of the kept states for each moment, or None for an open one."""
    known = known_moments(journey)
    front, back = front_of(journey, known), front_of(journey, known[::-1])
    told = [None] * len(journey.moments)
    for i, (k, _, _) in enumerate(known):
        told[k] = _kept_at(front, back, i, len(known) - 1 - i, journey.misses)
    return told


def _kept_at(front, back, before, behind, misses):
    """Return the kept states of the known moment with so many others before and behind it."""
    return either([both(front.layer(before, missed), back.layer(behind, misses - missed))
                   for missed in range(misses + 1)])


def fitting(journey, time, point, least, greatest):
    """Return the intervals of the offsets from the least to the greatest one with which a point fits at a time."""
    front, back = fronts_about(journey, known_moments(journey), time)
    return fitting_offsets(front, back, journey.misses, time, (point, [(least, greatest)]))


def fronts_about(journey, known, time):
    """Return a front of the known moments up to a time, and one of those behind it, from the last one back."""
    before = [row for row in known if row[1] <= time]
    behind = [row for row in known if row[1] > time]
    return front_of(journey, before), front_of(journey, behind[::-1])


def fitting_offsets(front, back, misses, time, wanted):
    """Return those offsets, of the wanted ones of a point, with which it goes on from both fronts together."""
    point, offsets = wanted
    told = []
    for missed in range(misses + 1):
        found = front.offsets(front.many(), time, point, missed, offsets)
        told.append(back.offsets(back.many(), time, point, misses - missed, found))
    return at_least(told, 1)


def some_track(journey):
    """Return a track with as few misses as there can be, or None if there is none."""
    known = known_moments(journey)
    _, states = fewest_misses(front_of(journey, known), journey.misses)
    return None if states is None else spread(journey, known, states)


def fewest_misses(front, most):
    """Return the least number of misses, of those up to the most, of a track of a front, and such a track.

    If there is none, they are one more than the most, and None.
    """
    for missed in range(most + 1):
        states = front.some_way(front.many(), missed)
        if states is not None:
            return missed, states
    return most + 1, None


def spread(journey, known, states):
    """Return a list with a state or None for each moment, made of such a list for the known ones."""
    told = [None] * len(journey.moments)
    for (k, _, _), state in zip(known, states):
        told[k] = state
    return told


def track_through(journey, k, state):
    """Return a track that has a state at the moment with the index k, or None if there is none."""
    known = known_moments(journey)
    before, behind = [row for row in known if row[0] < k], [row for row in known if row[0] > k]
    here = [states for i, _, states in known if i == k]
    if near_state(either(here), state, 0, 0) is None:
        return None
    time, _ = journey.moments[k]
    front, back = front_of(journey, before), front_of(journey, behind[::-1])
    for missed in range(journey.misses + 1):
        first = front.way(len(before), time, state, missed)
        second = back.way(len(behind), time, state, journey.misses - missed)
        if first is not None and second is not None:
            return spread(journey, known, first + [state] + second[::-1])
    return None


def least_misses(journey):
    """Return the least number of misses with which a journey has a track."""
    front = front_of(journey, known_moments(journey))
    missed, _ = fewest_misses(front, front.many())
    return missed


def moment_verdicts(journey):
    """Return what is known of each moment: right, wrong or open."""
    known = known_moments(journey)
    front, back = front_of(journey, known), front_of(journey, known[::-1])
    told = ["open"] * len(journey.moments)
    if front.some_way(len(known), journey.misses) is not None:
        for i, (k, _, _) in enumerate(known):
            behind = len(known) - 1 - i
            always = not _can_miss(front, back, known, i, journey.misses)
            told[k] = verdict(always, not _kept_at(front, back, i, behind, journey.misses))
    return told


def _can_miss(front, back, known, i, misses):
    """Tell whether some track misses a known moment."""
    many = len(known)
    if front.some_way(i, misses - (many - i)) is not None:
        return True
    # Otherwise there is a first moment behind it that the track does not miss.
    for k in range(i + 1, min(many, i + misses + 1)):
        _, time, _ = known[k]
        left = misses - (k - i)
        for missed in range(left + 1):
            for point, offsets in back.layer(many - 1 - k, left - missed):
                if front.offsets(i, time, point, missed, offsets):
                    return True
    return False


class Tracker:
    """Takes the moments of a journey, and tells at once which states are kept at the newest one."""

    def __init__(self, speed, drift, misses):
        self._taken = Journey([], speed, drift, misses)
        self._front = Front(self._taken)
        self._known = 0

    def take(self, time, problem):
        """Take a moment, and return the set of the kept states at it, or None if it is open."""
        self._taken.moments.append((time, problem))
        states = solutions(problem)
        if states is None:
            return None
        self._front.meet(time, states)
        self._known += 1
        # The sets within the front do not leave it.
        return either([self._front.layer(self._known - 1, self._taken.misses)])

    def journey(self):
        """Return the journey of all moments that were taken."""
        taken = self._taken
        return Journey(taken.moments, taken.speed, taken.drift, taken.misses)
