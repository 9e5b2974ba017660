"""Covers: what papers of anybody say of the states of a journey's moments."""

from rangekeep.boxes import box_about
from rangekeep.forms import is_tuple_of, is_whole
from rangekeep.fronts import linked_offsets
from rangekeep.offsets import at_least, common
from rangekeep.statesets import box_tree


def cover_of(states):
    """Return the cover that holds just the states of a set."""
    return tuple([(box_about([point]), low, high) for point, offsets in states for low, high in offsets])


def _is_cover(value):
    return isinstance(value, tuple) and all([_is_block(block) for block in value])


def _is_block(value):
    """Tell whether a value is a tuple of a box, wherever it lies, and the least and the greatest offset."""
    if not is_tuple_of(value, 3):
        return False
    box, low, high = value
    return is_tuple_of(box, 3) and all([_is_span(side) for side in box]) and _is_span((low, high))


def _is_span(value):
    """Tell whether a value is a pair of integers, the first one not greater than the second one."""
    if not is_tuple_of(value, 2):
        return False
    low, high = value
    return is_whole(low) and is_whole(high) and low <= high


def _is_front(value, many, misses):
    """Tell whether a value has the form of a front about so many moments."""
    if not is_tuple_of(value, many):
        return False
    return all([is_tuple_of(covers, misses + 1) and all([_is_cover(cover) for cover in covers]) for covers in value])


def _tree_of(cover):
    """Return the search tree of what a cover holds."""
    found = {}
    for box, low, high in cover:
        found.setdefault(box, []).append([(low, high)])
    return box_tree([(box, at_least(rows, 1)) for box, rows in found.items()])


def front_trees(journey, used, value):
    """Return the search trees of the covers of a right front about used moments, or None if a value is none.

    A used moment is a pair of its time and the set of its solutions.
    """
    if not _is_front(value, len(used), journey.misses):
        return None
    trees = [_trees_of(covers) for covers in value]
    for i in range(len(used)):
        for missed in range(journey.misses + 1):
            if not _is_covered(journey, used, trees, i, missed):
                return None
    return trees


def _trees_of(covers):
    """Return the search trees of some covers; one that is like the one before it has the same tree."""
    trees = []
    for m, cover in enumerate(covers):
        trees.append(trees[-1] if m > 0 and cover == covers[m - 1] else _tree_of(cover))
    return trees


def _is_covered(journey, used, trees, i, missed):
    """Tell whether a cover of the moment i holds all of its solutions that it must hold."""
    _, states = used[i]
    for point, offsets in states:
        held = linked_offsets(journey, trees[i][missed], 0, point, offsets)
        if held != offsets:
            led = offsets if i <= missed else _led_offsets(journey, used, trees, (i, missed), (point, offsets))
            if common(led, held) != led:
                return False
    return True


def _led_offsets(journey, used, trees, place, wanted):
    """Return those offsets, of the wanted ones of a point, with which the covers of earlier moments lead to it."""
    i, missed = place
    point, offsets = wanted
    time, _ = used[i]
    told = []
    for j in range(i - 1 - missed, i):
        earlier, _ = used[j]
        tree = trees[j][missed - (i - j - 1)]
        told.append(linked_offsets(journey, tree, abs(time - earlier), point, offsets))
    return at_least(told, 1)


def cost(journey, used, trees, time, state):
    """Return the cost of a front for a state and a time."""
    point, offset = state
    told = [len(used)]
    for i, (at, _) in enumerate(used):
        for missed, tree in enumerate(trees[i]):
            if linked_offsets(journey, tree, abs(time - at), point, [(offset, offset)]):
                told.append(missed + len(used) - 1 - i)
    return min(told)


def bare_cost(used, trees):
    """Return the bare cost of a front."""
    told = [len(used)]
    for i, row in enumerate(trees):
        told.extend([missed + len(used) - 1 - i for missed, tree in enumerate(row) if tree is not None])
    return min(told)
