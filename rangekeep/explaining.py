"""Explaining: how far observations are from holding at a place, and what is wrong with senders."""

from rangekeep.boxes import box_about, distance
from rangekeep.faults import best_at
from rangekeep.fixing import senders
from rangekeep.offsets import holds
from rangekeep.receiver import all_codes, heard, observation_of, told_at


def excess(one, far, offset):
    """Return the excess of an observation for a distance and an offset."""
    if holds(one, far, offset):
        return 0
    away = far + offset - one.reading
    if one.modulus is None:
        return away - one.slack if away > 0 else away + one.slack
    # Up to the nearest reading below, and down to the nearest one above.
    up = away % one.modulus - one.slack
    down = away % one.modulus - one.modulus + one.slack
    return up if up <= -down else down


def account(problem, point):
    """Return the greatest depth of an offset at a point, the least such offset, and the excesses of each sender."""
    depth, (_, offset) = best_at(problem, box_about([point]))
    return depth, offset, [_excesses(problem, sender, point, offset) for sender in senders(problem)]


def _excesses(problem, sender, point, offset):
    """Return the excesses of the observations of a sender, in their order."""
    return [excess(one, distance(point, one.point), offset) for one in problem.observations if one.sender == sender]


def states(bands, almanac, samples, n):
    """Return the states of all senders at a sample."""
    return states_of(bands, almanac, heard(bands, samples), n)


def states_of(bands, almanac, rows, n):
    """Return the states at a sample of all senders of which these were heard."""
    return [_state(number, len(code), one, known, n)
            for number, (code, one, known) in enumerate(zip(all_codes(bands), rows, almanac))]


def _state(number, length, one, known, n):
    """Return the state of a sender."""
    if one is None:
        return "deaf"
    if not one.track:
        return "silent"
    told = told_at(one, length, n, known)
    orbit, clock, time = told
    if orbit is None:
        return "no orbit"
    if clock is None:
        return "no clock"
    if observation_of(number, length, one, told, n) is None:
        return "none"
    return "unread" if time is None else "seen"
