"""Boxes of points, and distances."""

from math import isqrt


def root(n):
    """Return the square root of an integer from 0, rounded down."""
    return isqrt(n)


def distance(first, second):
    """Return the distance of two points, rounded down."""
    return isqrt(sum([(a - b) ** 2 for a, b in zip(first, second)]))


def volume(box):
    """Return the number of the points of a box."""
    many = 1
    for low, high in box:
        many *= high - low + 1
    return many


def is_inside(box, point):
    """Tell whether a point lies in a box."""
    return all([low <= at <= high for (low, high), at in zip(box, point)])


def near_far(box, point):
    """Return the least and the greatest distance of the points of a box to a point."""
    near = far = 0
    for (low, high), at in zip(box, point):
        behind, ahead = at - low, high - at
        far += max(behind, ahead) ** 2
        # One of the two is negative just if the coordinate lies outside of the box.
        near += min(behind, ahead, 0) ** 2
    return isqrt(near), isqrt(far)


def cut(box, axis, at):
    """Return the two boxes into which a box is cut at a coordinate."""
    low, high = box[axis]
    ahead, behind = box[:axis], box[axis + 1:]
    return ahead + ((low, at),) + behind, ahead + ((at + 1, high),) + behind


def middle(box):
    """Return the coordinate and the integer at which a box is halved, or None if it has one point."""
    sizes = [high - low for low, high in box]
    longest = max(sizes)
    if longest == 0:
        return None
    axis = sizes.index(longest)
    return axis, sum(box[axis]) // 2


def box_about(points):
    """Return the least box that has all of some points."""
    return tuple([(min(row), max(row)) for row in zip(*points)])
