"""Acquiring: where the periods of a code start in samples, and which bits they have."""

from rangekeep.codes import sum_of_products
from rangekeep.margin import levels


def correlation(samples, at, code):
    """Return the correlation of the samples with the code at an index."""
    return sum_of_products(code, samples[at:at + len(code)])


def hits(samples, code, threshold):
    """Return the indexes, with their bits, where the correlation reaches the threshold."""
    told = []
    for at in range(len(samples) - len(code) + 1):
        heard = correlation(samples, at, code)
        if abs(heard) >= threshold:
            told.append((at, _bit(heard)))
    return told


def follow(samples, code, at, threshold):
    """Return the indexes, with their bits, on the way of the loudest hits from an index on."""
    told = [(at, _bit(correlation(samples, at, code)))]
    ahead = _next_hit(samples, code, at, threshold)
    while ahead is not None:
        told.append(ahead)
        place, _ = ahead
        ahead = _next_hit(samples, code, place, threshold)
    return told


def _next_hit(samples, code, at, threshold):
    """Return the loudest hit about one period behind an index, the first one of equals, or None."""
    size = len(code)
    found, greatest = None, threshold - 1
    for place in range(at + size - 1, at + size + 2):
        if place + size <= len(samples):
            heard = correlation(samples, place, code)
            if abs(heard) > greatest:
                found, greatest = (place, _bit(heard)), abs(heard)
    return found


def _bit(heard):
    return 1 if heard > 0 else 0


def tracks(samples, code, threshold):
    """Return the tracks that begin at the hits that are in no earlier track."""
    told, taken = [], {}
    for at, _ in hits(samples, code, threshold):
        if at not in taken:
            track = follow(samples, code, at, threshold)
            told.append(track)
            for place, _ in track:
                taken[place] = True
    return told


def acquired(settings, samples):
    """Return the tracks of each code, or None for a code that cannot be relied on."""
    told = []
    for i, code in enumerate(settings.codes):
        loud, quiet = levels(settings, i)
        told.append(tracks(samples, code, loud) if loud > quiet else None)
    return told
