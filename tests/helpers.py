"""What several tests need: samples that some settings allow, and problems that are solved by trying all states."""

import random
from itertools import product
from math import isqrt

from rangekeep.fixing import Problem
from rangekeep.offsets import Observation
from rangekeep.samples import Stream, samples


def allowed_stream(rng, settings, i, size):
    """A stream of the code with the index i; it may begin and end anywhere about the samples."""
    least, greatest = settings.amplitudes[i]
    amplitude = rng.choice((-1, 1)) * rng.choice((least, greatest, rng.randint(least, greatest)))
    many = rng.randint(0, size // len(settings.codes[i]) + 1)
    steps = [rng.choice((-1, 0, 1)) if settings.moving else 0 for _ in range(many)]
    bits = [rng.randint(0, 1) for _ in range(many)]
    return Stream(settings.codes[i], amplitude, rng.randint(0, size // 2), steps, bits)


def allowed(seed, settings, size, sent=None):
    """Streams, one for each index of those that are sent, and samples that the settings allow."""
    rng = random.Random(seed)
    if sent is None:
        sent = range(len(settings.codes))
    streams = {i: allowed_stream(rng, settings, i, size) for i in sent}
    noise = [rng.choice((-settings.noise, settings.noise, rng.randint(-settings.noise, settings.noise)))
             for _ in range(size)]
    return streams, samples(list(streams.values()), noise)


def bits_of(text):
    return [int(sign) for sign in text if sign in "01"]


def points_of(box):
    return list(product(*[range(low, high + 1) for low, high in box]))


def written_distance(p, q):
    return isqrt(sum((a - b) ** 2 for a, b in zip(p, q)))


def written_holds(one, far, offset):
    """Point 13.1, by trying all numbers of the same remainder that can be near."""
    if one.modulus is None:
        return abs(far + offset - one.reading) <= one.slack
    many = (abs(far + offset - one.reading) + one.slack) // one.modulus + 1
    return any(abs(far + offset - (one.reading + k * one.modulus)) <= one.slack for k in range(-many, many + 1))


def offsets_of(spans):
    return [offset for low, high in spans for offset in range(low, high + 1)]


def spans_of(offsets):
    """The intervals of ascending offsets."""
    told = []
    for offset in offsets:
        if told and told[-1][1] == offset - 1:
            told[-1] = (told[-1][0], offset)
        else:
            told.append((offset, offset))
    return told


def served_by(problem, point, offset):
    """Point 14.1: for each sender, ascending, whether a state serves it."""
    told = {one.sender: True for one in sorted(problem.observations, key=lambda one: one.sender)}
    for one in problem.observations:
        if not written_holds(one, written_distance(point, one.point), offset):
            told[one.sender] = False
    return told


def all_states(problem):
    return [(point, offset) for point in points_of(problem.box)
            for offset in range(problem.least, problem.greatest + 1)]


def states_of(problem):
    """Point 14.2: the states that are solutions, by trying all."""
    told = []
    for point, offset in all_states(problem):
        if list(served_by(problem, point, offset).values()).count(False) <= problem.faults:
            told.append((point, offset))
    return told


def set_of(states):
    """Point 17.2: ascending states as a set."""
    return [(point, spans_of([offset for other, offset in states if other == point]))
            for point in sorted({point for point, _ in states})]


def random_box(rng, size, side):
    told = []
    for _ in range(3):
        low = rng.randint(-size, size)
        told.append((low, low + rng.randint(0, side)))
    return tuple(told)


def random_point(rng, size):
    return tuple(rng.randint(-size, size) for _ in range(3))


def random_problem(rng, side=2, senders=4, observations=6):
    """A small problem. Many of its observations are about right for one state."""
    box = random_box(rng, 6, side)
    least = rng.randint(-5, 5)
    greatest = least + rng.randint(0, 8)
    true, offset = rng.choice(points_of(box)), rng.randint(least, greatest)
    told = []
    for _ in range(rng.randint(0, observations)):
        at = random_point(rng, 9)
        reading = written_distance(at, true) + offset + rng.choice((0, 0, 0, 1, -2, 5))
        told.append(Observation(3 * rng.randint(0, senders - 1), at, reading, rng.choice((0, 0, 1, 2)),
                                rng.choice((None, None, 4, 7))))
    return Problem(told, box, least, greatest, rng.choice((0, 0, 1, 1, 2, senders)))


STRANGE = [None, True, False, 0, 1, -1, "", "out", [], ((),), (None,), ((), ()), ((0, 0), 0, 0), "xyz"]


def part_at(paper, path):
    for k in path:
        paper = paper[k]
    return paper


def changed(paper, path, part):
    """The paper with another part at a path."""
    if not path:
        return part
    return paper[:path[0]] + (changed(paper[path[0]], path[1:], part),) + paper[path[0] + 1:]


def places_in(paper, path=()):
    """The paths of all parts of a paper, with the paper itself."""
    told = [path]
    if isinstance(paper, tuple):
        for k, part in enumerate(paper):
            told += places_in(part, path + (k,))
    return told


def spoiled(paper):
    """Papers with one part that is wrong; no integer becomes another one, and no part an empty tuple."""
    for path in places_in(paper):
        was = part_at(paper, path)
        for value in STRANGE + ([was + (None,), was[:-1], list(was)] if was and isinstance(was, tuple) else []):
            is_number = isinstance(was, int) and isinstance(value, int) and not isinstance(value, bool)
            if value != () and not is_number:
                other = changed(paper, path, value)
                if repr(other) != repr(paper):
                    yield other
