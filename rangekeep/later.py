"""Keys that are told later: chains of keys, and senders and receivers of what is tagged with them."""


def hashed(term, count):
    """Return the term that is hashed so many times."""
    for _ in range(count):
        term = ("hash", term)
    return term


class Chain:
    """Keys each of which is the hash of the next one; the last one is a seed."""

    def __init__(self, seed, length):
        self.seed = seed
        self.length = length

    def key(self, i):
        """Return the key with a number from 0 to the length."""
        return hashed(("seed", self.seed), self.length - i)

    def anchor(self):
        """Return the key 0, which everybody knows."""
        return self.key(0)


class KeySender:
    """Tags messages with the key of the interval, and tells this key some intervals later."""

    def __init__(self, chain, step, delay):
        self._chain = chain
        self._step = step
        self._delay = delay

    def tag(self, time, message):
        """Return the packet of a message at a time, or None if the chain has no key for it."""
        i = time // self._step
        if not 1 <= i <= self._chain.length:
            return None
        return ("tag", i, message, ("mark", self._chain.key(i), message))

    def key(self, time):
        """Return the packet of the greatest key that is told at a time, or None if there is none yet."""
        i = min(time // self._step - self._delay, self._chain.length)
        if i < 1:
            return None
        return ("key", i, self._chain.key(i))


class KeyReceiver:
    """Keeps tags until a key is told that none of them can have been made with by anybody but the sender."""

    def __init__(self, anchor, length, step, delay, error):
        self._length = length
        self._step = step
        self._delay = delay
        self._error = error
        # The latest key that is known, and its interval.
        self._key = anchor
        self._interval = 0
        # The interval, the message and the mark of each tag that is kept, in the order in which they came.
        self._tags = []

    def hear(self, reading, packet):
        """Take a packet that is heard at a reading, and return the intervals and messages that are accepted now."""
        if packet[0] == "key":
            _, i, key = packet
            return self._accepted(i, key)
        _, i, message, mark = packet
        # The sender's time may be ahead by the error, and it must not tell the key yet.
        if 1 <= i <= self._length and (reading + self._error) // self._step < i + self._delay:
            self._tags.append((i, message, mark))
        return []

    def _accepted(self, i, key):
        """Take a key, and return what is accepted with it."""
        if not self._interval < i <= self._length or hashed(key, i - self._interval) != self._key:
            return []
        self._key, self._interval = key, i
        ready = [tag for tag in self._tags if tag[0] <= i]
        self._tags = [tag for tag in self._tags if tag[0] > i]
        return [(at, message) for at, message, mark in ready if mark == ("mark", hashed(key, i - at), message)]

    def latest(self):
        """Return the interval of the latest key."""
        return self._interval

    def kept(self):
        """Return the number of the tags that are kept."""
        return len(self._tags)
