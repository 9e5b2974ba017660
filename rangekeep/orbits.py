"""Orbits: where senders are, and what is seen from where."""

from rangekeep.codes import sum_of_products
from rangekeep.errors import InvalidOrbit
from rangekeep.units import in_units

# The greatest absolute value of a coordinate.
FARTHEST = 1000000


class Orbit:
    """Where a sender is from a first to a last time."""

    def __init__(self, begin, end, place, speed, pull):
        self.begin = begin
        self.end = end
        self.place = place
        self.speed = speed
        self.pull = pull

    def __eq__(self, other):
        return (isinstance(other, Orbit) and self.begin == other.begin and self.end == other.end
                and self.place == other.place and self.speed == other.speed and self.pull == other.pull)


def position(orbit, t):
    """Return the point where the sender is at a time."""
    if not orbit.begin <= t <= orbit.end:
        raise InvalidOrbit(t)
    d = t - orbit.begin
    pulled = d * (d - 1) // 2
    point = tuple([at + in_units(speed * d + pull * pulled)
                   for at, speed, pull in zip(orbit.place, orbit.speed, orbit.pull)])
    if max([abs(at) for at in point]) > FARTHEST:
        raise InvalidOrbit(t)
    return point


def is_seen(radius, p, q):
    """Tell whether no point of the line between two points lies in the planet."""
    d = _way(p, q)
    length = sum_of_products(d, d)
    away = sum_of_products(p, d)
    if away < 0 < sum_of_products(q, d):
        return sum_of_products(p, p) * length - away ** 2 >= radius ** 2 * length
    return min(sum_of_products(p, p), sum_of_products(q, q)) >= radius ** 2


def is_above(mask, p, q):
    """Tell whether the point q stands above a mask at the point p."""
    up, across = mask
    d = _way(p, q)
    away = sum_of_products(p, d)
    if away < 0:
        return False
    ground = sum_of_products(p, p) * sum_of_products(d, d) - away ** 2
    return away ** 2 * across ** 2 >= up ** 2 * ground


def _way(p, q):
    return tuple([b - a for a, b in zip(p, q)])
