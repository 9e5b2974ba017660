"""Observations, and the offsets with which they hold, as intervals."""


class Observation:
    """A range that was measured to a sender."""

    def __init__(self, sender, point, reading, slack, modulus):
        self.sender = sender
        self.point = point
        self.reading = reading
        self.slack = slack
        self.modulus = modulus

    def __eq__(self, other):
        return (isinstance(other, Observation) and self.sender == other.sender and self.point == other.point
                and self.reading == other.reading and self.slack == other.slack and self.modulus == other.modulus)


def holds(observation, distance, offset):
    """Tell whether an observation holds with a distance and an offset."""
    wrong = abs(distance + offset - observation.reading)
    if observation.modulus is not None:
        wrong = wrong % observation.modulus
        wrong = min(wrong, observation.modulus - wrong)
    return wrong <= observation.slack


def possible(observation, span, least, greatest):
    """Return the intervals of the offsets with which an observation holds for some distance of a span."""
    near, far = span
    low = observation.reading - observation.slack - far
    high = observation.reading + observation.slack - near
    modulus = observation.modulus
    if modulus is None:
        return common([(low, high)], [(least, greatest)])
    size = high - low
    if size + 1 >= modulus:
        return [(least, greatest)]
    # The first of the intervals that repeat does not end before the least offset.
    first = least + (high - least) % modulus - size
    return [(max(at, least), min(at + size, greatest)) for at in range(first, greatest + 1, modulus)]


def common(first, second):
    """Return the intervals of the offsets that lie in both of two lists of intervals."""
    told = []
    i = j = 0
    while i < len(first) and j < len(second):
        low = max(first[i][0], second[j][0])
        high = min(first[i][1], second[j][1])
        if low <= high:
            told.append((low, high))
        if first[i][1] < second[j][1]:
            i += 1
        else:
            j += 1
    return told


def deepest(rows):
    """Return the greatest depth of an offset, and the least offset that has it."""
    greatest, found = 0, None
    depth = 0
    for at, grows in _growth(rows):
        depth += grows
        if depth > greatest:
            greatest, found = depth, at
    return greatest, found


def at_least(rows, depth):
    """Return the intervals of the offsets whose depth is at least a given one."""
    told = []
    now, begin = 0, None
    for at, grows in _growth(rows):
        before, now = now, now + grows
        if before < depth <= now:
            begin = at
        elif now < depth <= before:
            told.append((begin, at - 1))
    return told


def _growth(rows):
    """Return how much the depth grows at each offset, ascending; intervals that touch leave a 0 there."""
    told = {}
    for spans in rows:
        for low, high in spans:
            told[low] = told.get(low, 0) + 1
            told[high + 1] = told.get(high + 1, 0) - 1
    return sorted(told.items())
