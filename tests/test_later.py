import copy
import random
import unittest

from rangekeep.later import Chain, KeyReceiver, KeySender, hashed
from rangekeep.terms import can_make

WORD = ("word", 5)


def hash_of(term):
    return ("hash", term)


def tag_of(chain, i, message):
    """Point 19.4: the packet of a message, whatever the time is."""
    return ("tag", i, message, ("mark", chain.key(i), message))


def key_of(chain, i):
    return ("key", i, chain.key(i))


class HashedTest(unittest.TestCase):
    def test_so_many_times(self):
        self.assertEqual(hashed(WORD, 0), WORD)
        self.assertEqual(hashed(WORD, 1), ("hash", WORD))
        self.assertEqual(hashed(("pair", WORD, WORD), 3), ("hash", ("hash", ("hash", ("pair", WORD, WORD)))))


class ChainTest(unittest.TestCase):
    def test_the_keys(self):
        for length in (1, 2, 30):
            chain = Chain(7, length)
            self.assertEqual(chain.key(length), ("seed", 7))
            for i in range(length):
                self.assertEqual(chain.key(i), ("hash", chain.key(i + 1)))
            self.assertEqual(chain.anchor(), chain.key(0))

    def test_two_chains(self):
        self.assertNotEqual(Chain(7, 3).key(2), Chain(8, 3).key(2))
        self.assertNotEqual(Chain(7, 3).anchor(), Chain(7, 4).anchor())


class SenderTest(unittest.TestCase):
    CHAIN = Chain(7, 3)

    def test_tags(self):
        sender = KeySender(self.CHAIN, 10, 1)
        for time, i in [(-1, None), (0, None), (9, None), (10, 1), (19, 1), (20, 2), (30, 3), (39, 3), (40, None),
                        (41, None), (999, None)]:
            told = sender.tag(time, WORD)
            self.assertEqual(told, None if i is None else ("tag", i, WORD, ("mark", self.CHAIN.key(i), WORD)))

    def test_keys(self):
        for delay in (1, 2, 3):
            sender = KeySender(self.CHAIN, 10, delay)
            for time in range(-15, 90):
                i = min(time // 10 - delay, 3)
                self.assertEqual(sender.key(time), None if i < 1 else ("key", i, self.CHAIN.key(i)))

    def test_the_first_and_the_last_key(self):
        sender = KeySender(self.CHAIN, 10, 1)
        self.assertEqual([sender.key(time) for time in (19, 20, 29, 30, 40, 1000)],
                         [None] + [("key", i, self.CHAIN.key(i)) for i in (1, 1, 2, 3, 3)])

    def test_a_step_of_1(self):
        sender = KeySender(Chain(0, 1), 1, 1)
        self.assertEqual([sender.tag(time, WORD) is None for time in (0, 1, 2)], [True, False, True])
        self.assertEqual([sender.key(time) is None for time in (1, 2, 3)], [True, False, False])


class WrittenReceiver:
    """Point 19.5, with all that was heard kept to the end."""

    def __init__(self, chain, step, delay, error):
        self.keys, self.length = {0: chain.anchor()}, chain.length
        self.step, self.delay, self.error = step, delay, error
        self.tags = []

    def hear(self, reading, packet):
        word, i = packet[:2]
        if word == "tag":
            time = reading + self.error
            if 1 <= i <= self.length and not time >= (i + self.delay) * self.step:
                self.tags.append([i, packet[2], packet[3], True])
            return []
        key, latest = packet[2], max(self.keys)
        rows = {i: key}
        for k in range(i - 1, -1, -1):
            rows[k] = hash_of(rows[k + 1])
        if i <= latest or i > self.length or rows[latest] != self.keys[latest]:
            return []
        self.keys.update(rows)
        told = []
        for tag in self.tags:
            if tag[3] and tag[0] <= i:
                tag[3] = False
                if tag[2] == ("mark", self.keys[tag[0]], tag[1]):
                    told.append((tag[0], tag[1]))
        return told

    def latest(self):
        return max(self.keys)

    def kept(self):
        return [tag[3] for tag in self.tags].count(True)


class ReceiverTest(unittest.TestCase):
    CHAIN = Chain(7, 4)

    def receiver(self, step=10, delay=1, error=2):
        return KeyReceiver(self.CHAIN.anchor(), 4, step, delay, error)

    def test_at_first(self):
        receiver = self.receiver()
        self.assertEqual([receiver.latest(), receiver.kept()], [0, 0])

    def test_the_last_reading_at_which_a_tag_is_kept(self):
        for delay in (1, 3):
            for error in (0, 2, 15):
                for i in (1, 2, 4):
                    last = (i + delay) * 10 - 1 - error
                    for reading, many in [(last, 1), (last + 1, 0), (last - 50, 1), (last + 50, 0)]:
                        receiver = self.receiver(delay=delay, error=error)
                        self.assertEqual(receiver.hear(reading, tag_of(self.CHAIN, i, WORD)), [])
                        self.assertEqual(receiver.kept(), many)

    def test_intervals_of_tags(self):
        for i, many in [(0, 0), (1, 1), (4, 1), (5, 0), (99, 0)]:
            receiver = self.receiver()
            receiver.hear(-100, ("tag", i, WORD, ("mark", WORD, WORD)))
            self.assertEqual(receiver.kept(), many)

    def test_accepted_in_the_order_in_which_they_came(self):
        receiver = self.receiver()
        for i, n in [(2, 1), (1, 2), (3, 3), (2, 4), (1, 2)]:
            receiver.hear(0, tag_of(self.CHAIN, i, ("word", n)))
        self.assertEqual(receiver.kept(), 5)
        self.assertEqual(receiver.hear(30, key_of(self.CHAIN, 2)),
                         [(2, ("word", 1)), (1, ("word", 2)), (2, ("word", 4)), (1, ("word", 2))])
        self.assertEqual([receiver.kept(), receiver.latest()], [1, 2])
        self.assertEqual(receiver.hear(30, key_of(self.CHAIN, 4)), [(3, ("word", 3))])
        self.assertEqual([receiver.kept(), receiver.latest()], [0, 4])

    def test_tags_with_wrong_marks(self):
        key, other = self.CHAIN.key(2), self.CHAIN.key(3)
        for mark, is_right in [(("mark", key, WORD), True), (("mark", other, WORD), False), (("mark", key, key), False),
                               (("hash", WORD), False), (("mark", WORD, key), False), (key, False), (WORD, False),
                               (("mark", self.CHAIN.key(1), WORD), False), (("pair", key, WORD), False)]:
            receiver = self.receiver()
            receiver.hear(0, ("tag", 2, WORD, mark))
            self.assertEqual(receiver.hear(30, key_of(self.CHAIN, 2)), [(2, WORD)] * is_right)
            self.assertEqual(receiver.kept(), 0)

    def test_a_tag_that_was_looked_at_is_not_kept(self):
        receiver = self.receiver()
        receiver.hear(0, tag_of(self.CHAIN, 2, WORD))
        self.assertEqual(receiver.hear(30, key_of(self.CHAIN, 2)), [(2, WORD)])
        self.assertEqual(receiver.hear(40, key_of(self.CHAIN, 3)), [])

    def test_a_tag_of_an_interval_whose_key_is_known(self):
        """19.5: it is kept all the same, and looked at with the next key."""
        receiver = self.receiver(delay=3, error=0)
        receiver.hear(0, key_of(self.CHAIN, 2))
        receiver.hear(5, tag_of(self.CHAIN, 1, WORD))
        receiver.hear(5, tag_of(self.CHAIN, 2, ("word", 6)))
        self.assertEqual(receiver.kept(), 2)
        self.assertEqual(receiver.hear(6, key_of(self.CHAIN, 2)), [])
        self.assertEqual(receiver.kept(), 2)
        self.assertEqual(receiver.hear(7, key_of(self.CHAIN, 3)), [(1, WORD), (2, ("word", 6))])

    def test_keys_that_are_wrong_have_no_effect(self):
        receiver = self.receiver()
        receiver.hear(0, tag_of(self.CHAIN, 1, WORD))
        for i, key in [(0, self.CHAIN.anchor()), (1, self.CHAIN.key(2)), (2, self.CHAIN.key(1)), (1, WORD),
                       (4, ("seed", 8)), (5, ("seed", 7)), (1, self.CHAIN.anchor()), (3, self.CHAIN.key(4))]:
            self.assertEqual(receiver.hear(50, ("key", i, key)), [])
            self.assertEqual([receiver.latest(), receiver.kept()], [0, 1])
        self.assertEqual(receiver.hear(50, key_of(self.CHAIN, 4)), [(1, WORD)])
        for i in range(6):
            self.assertEqual(receiver.hear(50, ("key", i, self.CHAIN.key(min(i, 4)))), [])
            self.assertEqual(receiver.latest(), 4)

    def test_a_key_beyond_the_length(self):
        """19.5: a key of an interval that is greater than the length is not right, even if it hashes to the anchor."""
        chain = Chain(7, 6)
        receiver = KeyReceiver(chain.anchor(), 4, 10, 1, 2)
        self.assertEqual(receiver.hear(0, key_of(chain, 5)), [])
        self.assertEqual(receiver.latest(), 0)
        receiver.hear(0, key_of(chain, 4))
        self.assertEqual(receiver.latest(), 4)

    def test_as_written(self):
        rng = random.Random(195)
        many = 0
        for _ in range(300):
            chain = Chain(rng.randint(0, 1), rng.randint(1, 4))
            step, delay, error = rng.randint(1, 4), rng.randint(1, 3), rng.randint(0, 3)
            receiver = KeyReceiver(chain.anchor(), chain.length, step, delay, error)
            written = WrittenReceiver(chain, step, delay, error)
            for reading in range(rng.randint(0, 25)):
                i, message = rng.randint(0, 5), ("word", rng.randint(0, 9))
                key = Chain(rng.choice((0, 1)), chain.length).key(rng.randint(0, chain.length))
                right = chain.key(min(i, chain.length))
                packet = rng.choice([("tag", i, message, ("mark", rng.choice((key, right)), message)),
                                     ("tag", i, message, ("mark", right, message)),
                                     ("key", i, rng.choice((key, right, right)))])
                told = receiver.hear(reading - 3, packet)
                self.assertEqual(told, written.hear(reading - 3, packet))
                self.assertEqual([receiver.latest(), receiver.kept()], [written.latest(), written.kept()])
                many += len(told)
        self.assertGreater(many, 100)

    def test_two_receivers(self):
        first, second = self.receiver(), self.receiver()
        first.hear(0, tag_of(self.CHAIN, 1, WORD))
        first.hear(0, key_of(self.CHAIN, 1))
        self.assertEqual([second.latest(), second.kept()], [0, 0])

    def test_the_packet_is_as_before(self):
        packet = tag_of(self.CHAIN, 1, ("pair", WORD, WORD))
        before = copy.deepcopy(packet)
        receiver = self.receiver()
        receiver.hear(0, packet)
        receiver.hear(20, key_of(self.CHAIN, 1)).append("x")
        self.assertEqual(packet, before)
        self.assertEqual(receiver.hear(20, key_of(self.CHAIN, 2)), [])


def sent_by(time, sender, messages):
    """What a sender sends at a time."""
    told = [sender.tag(time, message) for message in messages] + [sender.key(time)]
    return [packet for packet in told if packet is not None]


def forged(rng, chain, length):
    """A packet of somebody who tries anything."""
    key = rng.choice([chain.key(rng.randint(0, length)), ("word", 1), ("seed", 99)])
    message = rng.choice([("word", 1000), ("hash", ("word", 1000)), ("pair", ("word", 1000), key)])
    i = rng.randint(0, length + 1)
    return rng.choice([("tag", i, message, ("mark", key, message)), ("tag", i, message, key), ("key", i, key)])


class TogetherTest(unittest.TestCase):
    def test_only_what_the_sender_sent_is_accepted(self):
        """Point 19.6: packets that were sent, also late, and packets made from what was sent so far."""
        rng = random.Random(196)
        accepted = forgeries = 0
        for _ in range(150):
            length = rng.randint(1, 4)
            chain = Chain(1, length)
            step, delay, error = rng.randint(1, 5), rng.randint(1, 2), rng.randint(0, 4)
            sender = KeySender(chain, step, delay)
            receiver = KeyReceiver(chain.anchor(), length, step, delay, error)
            sent, messages = [], []
            for time in range(step, (length + delay + 2) * step):
                now = sent_by(time, sender, [("word", time)] if rng.random() < 0.7 else [])
                sent += now
                messages += [(packet[1], packet[2]) for packet in now if packet[0] == "tag"]
                packets = [packet for packet in now if rng.random() < 0.7] + rng.sample(sent, min(2, len(sent)))
                known = [chain.anchor()] + [term for packet in sent for term in packet[2:]]
                for packet in [forged(rng, chain, length) for _ in range(4)]:
                    if all(can_make(known, term) for term in packet[2:]):
                        packets.append(packet)
                        forgeries += 1
                rng.shuffle(packets)
                for packet in packets:
                    for told in receiver.hear(time + rng.randint(-error, error), packet):
                        self.assertIn(told, messages)
                        accepted += 1
        self.assertGreater(min(accepted, forgeries), 300)

    def test_what_is_heard_in_time_is_accepted(self):
        """Point 19.7: once for each time that it was heard and kept."""
        rng = random.Random(197)
        many = 0
        for _ in range(150):
            length, step, delay = rng.randint(1, 4), rng.randint(1, 6), rng.randint(1, 3)
            error = rng.randint(0, 5)
            chain = Chain(1, length)
            sender = KeySender(chain, step, delay)
            receiver = KeyReceiver(chain.anchor(), length, step, delay, error)
            awaited, told = [], []
            for time in range(step, (length + delay + 2) * step):
                reading = time + rng.randint(-error, error)
                packet = sender.tag(time, ("word", time))
                for _ in range(rng.randint(0, 2) if packet is not None else 0):
                    if reading + error < (packet[1] + delay) * step:
                        awaited.append((packet[1], packet[2]))
                    told += receiver.hear(reading, packet)
                if sender.key(time) is not None and rng.random() < 0.4:
                    told += receiver.hear(reading, sender.key(time))
            told += receiver.hear(0, key_of(chain, length))
            self.assertEqual(sorted(told), sorted(awaited))
            many += len(told)
        self.assertGreater(many, 500)


if __name__ == "__main__":
    unittest.main()
