"""Forms: what a value of anybody, made of tuples, lists, strings, integers, truth values and None, is."""

from rangekeep.boxes import is_inside


def is_whole(value):
    """Tell whether a value is an integer; a truth value is none."""
    return isinstance(value, int) and not isinstance(value, bool)


def is_tuple_of(value, many):
    """Tell whether a value is a tuple with so many items; a list is none."""
    return isinstance(value, tuple) and len(value) == many


def is_point(value):
    """Tell whether a value is a tuple of three integers."""
    return is_tuple_of(value, 3) and all([is_whole(at) for at in value])


def is_state(value):
    """Tell whether a value is a pair of a point and an offset."""
    if not is_tuple_of(value, 2):
        return False
    point, offset = value
    return is_point(point) and is_whole(offset)


def is_state_of(problem, value):
    """Tell whether a value is a state within the box and the offsets of a problem, or of a plan."""
    if not is_state(value):
        return False
    point, offset = value
    return is_inside(problem.box, point) and problem.least <= offset <= problem.greatest
