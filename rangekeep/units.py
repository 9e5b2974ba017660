"""Parts of a unit: speeds, pulls and drifts are told in parts of 2 ** 20."""

PARTS = 2 ** 20


def in_units(parts):
    """Return so many parts in whole units, rounded down."""
    return parts // PARTS
