"""What several tests need: small journeys, and all tracks of them."""

import random

from helpers import states_of
from rangekeep.fixing import Problem
from rangekeep.offsets import Observation
from rangekeep.tracks import Journey

PARTS = 2 ** 20
LINE = ((0, 8), (0, 0), (0, 0))


def at_x(x, slack=0, box=LINE, least=0, greatest=0):
    """A problem of a receiver on the line, whose distance to the origin is x, give or take the slack."""
    return Problem([Observation(0, (0, 0, 0), x, slack, None)], box, least, greatest, 0)


def nowhere():
    return at_x(99)


def too_many():
    return Problem([], ((0, 2000), (0, 0), (0, 0)), 0, 0, 0)


def state(x, offset=0):
    return ((x, 0, 0), offset)


def steady(moments, misses=0, speed=PARTS, drift=0):
    """A journey of a receiver that goes at most one unit in one unit of time."""
    return Journey(moments, speed, drift, misses)


def written_linked(journey, elapsed, first, second):
    """Point 17.3."""
    far, apart = journey.speed * elapsed // PARTS, journey.drift * elapsed // PARTS
    return (all(abs(a - b) <= far for a, b in zip(first[0], second[0]))
            and abs(first[1] - second[1]) <= apart)


def all_tracks(journey, sets, misses):
    """Point 17.4: all tracks, by trying each state and None at each moment; an open moment has the set None."""
    told = []

    def go(track, missed, last):
        k = len(track)
        if k == len(sets):
            told.append(track)
            return
        if sets[k] is None or missed < misses:
            go(track + [None], missed + (sets[k] is not None), last)
        time = journey.moments[k][0]
        for here in sets[k] or []:
            if last is None or written_linked(journey, time - last[0], last[1], here):
                go(track + [here], missed, (time, here))

    go([], 0, None)
    return told


def tried(journey, misses=None):
    """The states of all moments, and all tracks."""
    sets = [None if problem is None else states_of(problem) for _, problem in journey.moments]
    return sets, all_tracks(journey, sets, journey.misses if misses is None else misses)


def ordered(row, axes):
    return tuple(row[axis] for axis in axes)


def random_journey(rng, most=4):
    """A small journey in a plane, which may be square to any of the three coordinates."""
    moments, axes = [], rng.sample(range(3), 3)
    for time in sorted(rng.sample(range(-3, 10), rng.randint(0, most))):
        if rng.random() < 0.15:
            moments.append((time, None))
            continue
        low = rng.randint(0, 3)
        box = ordered(((low, low + rng.choice((0, 1, 2))), (0, rng.choice((0, 0, 1))), (5, 5)), axes)
        least = rng.randint(-2, 1)
        seen = [Observation(k, ordered((rng.randint(-3, 6), rng.randint(-2, 2), 5), axes), rng.randint(0, 5),
                            rng.randint(0, 1), rng.choice((None, None, 3))) for k in range(rng.randint(0, 2))]
        moments.append((time, Problem(seen, box, least, least + rng.randint(0, 2), rng.choice((0, 0, 1)))))
    return Journey(moments, rng.choice((0, PARTS // 3, PARTS // 2, PARTS, 2 * PARTS)),
                   rng.choice((0, PARTS // 4, PARTS // 2, PARTS)), rng.choice((0, 0, 1, 1, 2, 3)))


def random_journeys(seed, many):
    """Small journeys; none of their problems has so many solutions that trying all tracks would be long."""
    rng, told = random.Random(seed), []
    while len(told) < many:
        journey = random_journey(rng)
        if all(problem is None or len(states_of(problem)) < 9 for _, problem in journey.moments):
            told.append(journey)
    return told
