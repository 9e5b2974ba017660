"""Shift registers: what they give out, and the least one that gives out some bits."""


def step(taps, state):
    """Return the bit that is given out, and the next state."""
    fed = sum([state[tap - 1] for tap in taps]) % 2
    return state[-1], (fed,) + state[:-1]


def sequence(taps, state, count):
    """Return the first bits that are given out from a state."""
    told = []
    for _ in range(count):
        bit, state = step(taps, state)
        told.append(bit)
    return told


def period(taps, state):
    """Return the least number of steps, at least 1, that leads back to the state."""
    _, now = step(taps, state)
    steps = 1
    while now != state:
        _, now = step(taps, now)
        steps += 1
    return steps


def is_maximal(taps):
    """Tell whether the register goes through all states that are not all 0."""
    size = taps[-1]
    return period(taps, (1,) * size) == (1 << size) - 1


def maximal_taps(n):
    """Return all maximal taps of a size, ascending."""
    found = []
    for chosen in range(1 << (n - 1)):
        taps = tuple([tap for tap in range(1, n) if chosen >> (tap - 1) & 1]) + (n,)
        if is_maximal(taps):
            found.append(taps)
    return sorted(found)


def complexity(bits):
    """Return the size of the least register that gives out the bits."""
    size, _ = _shortest(bits)
    return size


def connection(bits):
    """Return the taps of the least register as a row of bits, or None if there may be several."""
    size, row = _shortest(bits)
    if 2 * size > len(bits):
        return None
    return tuple((row + [0] * size)[1:size + 1])


def _shortest(bits):
    """Return the complexity and a row: row[k] tells whether the bit k places before counts.

    This is the method of Berlekamp and Massey. A row that fails at a bit is
    mended by adding an earlier row that failed, moved so that the two faults
    meet; the row that is kept for this is the one from before the last growth.
    """
    row, size = [1], 0
    earlier, moved = [1], 1
    for at in range(len(bits)):
        fails = sum([weight * bits[at - back] for back, weight in enumerate(row)]) % 2
        if fails:
            mended = _sum_of_rows(row, [0] * moved + earlier)
            if 2 * size <= at:
                earlier, moved, size = row, 0, at + 1 - size
            row = mended
        moved += 1
    return size, row


def _sum_of_rows(a, b):
    """Return the sum modulo 2 of two rows; the shorter one is filled up with 0."""
    size = max(len(a), len(b))
    a = a + [0] * (size - len(a))
    b = b + [0] * (size - len(b))
    return [x ^ y for x, y in zip(a, b)]
