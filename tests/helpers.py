"""What several tests need: samples that some settings allow."""

import random

from rangekeep.samples import Stream, samples


def allowed_stream(rng, settings, i, size):
    """A stream of the code with the index i; it may begin and end anywhere about the samples."""
    least, greatest = settings.amplitudes[i]
    amplitude = rng.choice((-1, 1)) * rng.choice((least, greatest, rng.randint(least, greatest)))
    many = rng.randint(0, size // len(settings.codes[i]) + 1)
    steps = [rng.choice((-1, 0, 1)) if settings.moving else 0 for _ in range(many)]
    bits = [rng.randint(0, 1) for _ in range(many)]
    return Stream(settings.codes[i], amplitude, rng.randint(0, size // 2), steps, bits)


def allowed(seed, settings, size, sent=None):
    """Streams, one for each index of those that are sent, and samples that the settings allow."""
    rng = random.Random(seed)
    if sent is None:
        sent = range(len(settings.codes))
    streams = {i: allowed_stream(rng, settings, i, size) for i in sent}
    noise = [rng.choice((-settings.noise, settings.noise, rng.randint(-settings.noise, settings.noise)))
             for _ in range(size)]
    return streams, samples(list(streams.values()), noise)


def bits_of(text):
    return [int(sign) for sign in text if sign in "01"]
