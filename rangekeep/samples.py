"""Samples: what several streams and the noise give together."""


class Stream:
    """What one sender gives to the samples: periods of its code, one behind the other."""

    def __init__(self, code, amplitude, first, steps, bits):
        self.code = code
        self.amplitude = amplitude
        self.first = first
        self.steps = list(steps)
        self.bits = list(bits)

    def __eq__(self, other):
        return (isinstance(other, Stream) and self.code == other.code and self.amplitude == other.amplitude
                and self.first == other.first and self.steps == other.steps and self.bits == other.bits)


def starts(stream):
    """Return the starts of all periods, followed by the end."""
    told = [stream.first]
    for moved in stream.steps:
        told.append(told[-1] + len(stream.code) + moved)
    return told


def value(stream, t):
    """Return what a stream gives at the sample t."""
    for start, end, amplitude in _periods(stream):
        if start <= t < end:
            return amplitude * _chip(stream.code, t - start)
    return 0


def samples(streams, noise):
    """Return the sums of what the streams and the noise give."""
    heard = list(noise)
    for stream in streams:
        for start, end, amplitude in _periods(stream):
            for t in range(start, min(end, len(heard))):
                heard[t] += amplitude * _chip(stream.code, t - start)
    return heard


def _periods(stream):
    """Return the start, the end and the amplitude, with the sign of the bit, of each period."""
    marks = starts(stream)
    amplitudes = [stream.amplitude if bit else -stream.amplitude for bit in stream.bits]
    return list(zip(marks, marks[1:], amplitudes))


def _chip(code, index):
    """Return the chip at a sample of a period; a long period has the last chip twice."""
    return code[min(index, len(code) - 1)]
