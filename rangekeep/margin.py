"""Margins: how much louder the start of a period is than everything else."""

from rangekeep.codes import sum_of_products


class Settings:
    """What a receiver relies on."""

    def __init__(self, codes, amplitudes, noise, moving):
        self.codes = list(codes)
        self.amplitudes = list(amplitudes)
        self.noise = noise
        self.moving = moving

    def __eq__(self, other):
        return (isinstance(other, Settings) and self.codes == other.codes and self.amplitudes == other.amplitudes
                and self.noise == other.noise and self.moving == other.moving)


def weight(a, b, length, offset):
    """Return the weight of an alignment of a window of the code a and a stream of the code b."""
    period = b + b[-1:] * (length - len(b))
    inside = min(length - offset, len(a))
    here = sum_of_products(a[:inside], period[offset:])
    behind = sum_of_products(a[inside:], b)
    return abs(here) + abs(behind)


def worst(a, b, moving):
    """Return the greatest weight of an alignment that is no start of the window's own code."""
    size = len(a)
    lengths = (size - 1, size, size + 1) if moving else (size,)
    first = 1 if a == b else 0
    return max([weight(a, b, length, offset) for length in lengths for offset in range(first, length)])


def loud(settings, i):
    """Return the least that a start of the code with the index i can give."""
    value, _ = levels(settings, i)
    return value


def quiet(settings, i):
    """Return the most that any other place can give for the code with the index i."""
    _, value = levels(settings, i)
    return value


def margin(settings, i):
    """Return the loud value less the quiet value."""
    above, below = levels(settings, i)
    return above - below


def levels(settings, i):
    """Return the loud and the quiet value; both need the same long sum over the other codes."""
    code, moving = settings.codes[i], settings.moving
    least, greatest = settings.amplitudes[i]
    # Behind a short period the window's last chip meets the next period, and may count against the others.
    whole = len(code) - 2 if moving else len(code)
    disturbed = _from_others(settings, i) + settings.noise * len(code)
    return least * whole - disturbed, greatest * worst(code, code, moving) + disturbed


def _from_others(settings, i):
    """Return the most that the streams of all other codes can give together."""
    total = 0
    for k, other in enumerate(settings.codes):
        if k != i:
            _, greatest = settings.amplitudes[k]
            total += greatest * worst(settings.codes[i], other, settings.moving)
    return total
