"""Sets of states: points with the intervals of their offsets, ascending by the points."""

from rangekeep.boxes import box_about, middle
from rangekeep.offsets import at_least, common


def either(sets):
    """Return the states that are in at least one of the sets."""
    found = {}
    for states in sets:
        for point, offsets in states:
            found.setdefault(point, []).append(offsets)
    return [(point, at_least(found[point], 1)) for point in sorted(found)]


def both(first, second):
    """Return the states that are in both of two sets."""
    others = {point: offsets for point, offsets in second}
    shared = [(point, common(offsets, others.get(point, []))) for point, offsets in first]
    return [(point, offsets) for point, offsets in shared if offsets]


def near_state(states, state, far, apart):
    """Return a state of a set whose coordinates and whose offset are no farther away, or None if there is none."""
    (x, y, z), offset = state
    for (u, v, w), offsets in states:
        if abs(u - x) <= far and abs(v - y) <= far and abs(w - z) <= far:
            near = common(offsets, [(offset - apart, offset + apart)])
            if near:
                return (u, v, w), near[0][0]
    return None


def search_tree(states):
    """Return a tree of a set, in which what is near a point is found without looking at all states."""
    return box_tree([(box_about([point]), offsets) for point, offsets in states])


def box_tree(rows):
    """Return a tree of different boxes, each with the intervals of its offsets.

    A tree has the least box with all of the boxes, all of their offsets together,
    and the trees of the two halves of the boxes, or none for a single box. The
    tree of no boxes is None.
    """
    if not rows:
        return None
    if len(rows) == 1:
        box, offsets = rows[0]
        return box, offsets, ()
    whole = box_about([corner for box, _ in rows for corner in zip(*box)])
    axis, _ = middle(whole)
    ordered = sorted([(sum(box[axis]), box, offsets) for box, offsets in rows])
    half = len(rows) // 2
    first, second = [box_tree([(box, offsets) for _, box, offsets in part])
                     for part in (ordered[:half], ordered[half:])]
    return whole, at_least([first[1], second[1]], 1), (first, second)


def near_offsets(tree, window, apart, wanted):
    """Return those of the wanted offsets that are no farther from an offset of some box that meets a window."""
    box, offsets, parts = tree
    if _is_outside_of(box, window):
        return []
    found = common(_widened(offsets, apart), wanted)
    if not found or not parts or _is_part_of(box, window):
        return found
    first, second = parts
    told = near_offsets(first, window, apart, found)
    # Where the first half gives all that both can give, the second one need not be looked at.
    if told == found:
        return told
    return at_least([told, near_offsets(second, window, apart, found)], 1)


def _is_outside_of(box, window):
    """Tell whether a box and a window have no point in common."""
    for (low, high), (least, greatest) in zip(box, window):
        if high < least or greatest < low:
            return True
    return False


def _is_part_of(box, window):
    """Tell whether all points of a box lie in a window."""
    for (low, high), (least, greatest) in zip(box, window):
        if low < least or greatest < high:
            return False
    return True


def _widened(offsets, apart):
    """Return the intervals of the offsets that are no farther from one of some intervals."""
    told = []
    for low, high in offsets:
        if told and low - apart <= told[-1][1] + 1:
            told[-1] = (told[-1][0], high + apart)
        else:
            told.append((low - apart, high + apart))
    return told
