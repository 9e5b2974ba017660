"""The commands of a console that answer."""

from rangekeep.boxes import is_inside
from rangekeep.errors import TooMany
from rangekeep.explaining import account, states_of
from rangekeep.faults import least_faults, verdicts
from rangekeep.fixing import Problem, senders
from rangekeep.receiver import observations_of
from rangekeep.tracks import Journey, kept, moment_verdicts, solutions

MOST_STOPS = 20
MOST_MISSES = 5


def answer(desk, word, values):
    """Return the lines that a command answers."""
    action = ANSWERS[word]
    return action(desk, *values)


def _problem(desk, n):
    """Return the problem at a sample."""
    desk.require(n >= 0)
    seen = observations_of(desk.bands, desk.almanac, desk.rows(), n)
    return Problem(seen, desk.box, desk.least, desk.greatest, desk.faults)


def _sender_lines(numbers, words):
    """Return a line for each sender, with its number and a word."""
    return [f"sender {number}: {word}" for number, word in zip(numbers, words)]


def _set_lines(states):
    """Return the number of the places of a set of states, and a line for each of them."""
    return [f"places {len(states)}"] + [" ".join([_point_text(point)] + [f"{low}..{high}" for low, high in offsets])
                                        for point, offsets in states]


def _point_text(point):
    return "(" + _row_text(point) + ")"


def _row_text(values):
    return " ".join([str(value) for value in values])


def _hear(desk):
    told = []
    for number, one in enumerate(desk.rows()):
        if one is None:
            told.append(f"sender {number}: deaf")
        else:
            starts, frames, records = len(one.track), len(one.frames), len(one.records)
            told.append(f"sender {number}: {starts} starts {frames} frames {records} records")
            told.extend([f"at {place}: {_row_text(record)}" for place, record in one.records])
    return told


def _states(desk, n):
    desk.require(n >= 0)
    words = states_of(desk.bands, desk.almanac, desk.rows(), n)
    return _sender_lines(list(range(len(words))), words)


def _fix(desk, n):
    states = solutions(_problem(desk, n))
    return ["places many"] if states is None else _set_lines(states)


def _why(desk, n, place):
    desk.require(is_inside(desk.box, place))
    problem = _problem(desk, n)
    depth, offset, rows = account(problem, place)
    return [f"depth {depth} offset {offset}"] + [_row_text([f"sender {number}:"] + row)
                                                 for number, row in zip(senders(problem), rows)]


def _verdicts(desk, n):
    problem = _problem(desk, n)
    try:
        return _sender_lines(senders(problem), verdicts(problem))
    except TooMany:
        return ["many"]


def _least(desk, n):
    return [f"faults {least_faults(_problem(desk, n))}"]


def _stop(desk, time, n):
    count = len(desk.moments)
    desk.require(count < MOST_STOPS)
    desk.require(all([before < time for before, _ in desk.moments]))
    desk.stop(time, _problem(desk, n))
    return [f"stop {count}"]


def _journey(desk, speed, drift, misses):
    """Return the journey of all stops."""
    desk.require(speed >= 0 and drift >= 0 and 0 <= misses <= MOST_MISSES)
    return Journey(desk.moments, speed, drift, misses)


def _kept(desk, speed, drift, misses):
    told = []
    for number, states in enumerate(kept(_journey(desk, speed, drift, misses))):
        rows = ["open"] if states is None else _set_lines(states)
        told.extend([f"stop {number}: {rows[0]}"] + rows[1:])
    return told


def _moments(desk, speed, drift, misses):
    words = moment_verdicts(_journey(desk, speed, drift, misses))
    return [f"stop {number}: {word}" for number, word in enumerate(words)]


# The function of each command that answers.
ANSWERS = {
    "hear": _hear,
    "states": _states,
    "fix": _fix,
    "why": _why,
    "verdicts": _verdicts,
    "least": _least,
    "stop": _stop,
    "kept": _kept,
    "moments": _moments,
}
