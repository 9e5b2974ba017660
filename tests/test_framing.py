import itertools
import random
import unittest

from helpers import bits_of
from rangekeep.errors import InvalidFrame
from rangekeep.framing import FLAG, Framer, frames_in, stream_of, stuff, unstuff

F = "01111110"
T = "10000001"


def turned(bits):
    return [1 - bit for bit in bits]


def all_lists(longest):
    return [list(bits) for many in range(longest + 1) for bits in itertools.product((0, 1), repeat=many)]


def expected_frames(bits):
    """Point 07.4: first all marks, then what lies between each two."""
    text = "".join(str(bit) for bit in bits)
    marks, at = [], 0
    while at + 8 <= len(text):
        sign = {F: 1, T: -1}.get(text[at:at + 8], 0)
        if sign:
            marks.append((at, sign))
        at += 8 if sign else 1
    told = []
    for (first, sign), (second, other) in zip(marks, marks[1:]):
        between = bits[first + 8:second]
        if sign == other and between:
            try:
                content = tuple(unstuff(between if sign == 1 else turned(between)))
            except InvalidFrame:
                content = None
            told.append((first, sign, content))
    return told


def fed(bits, sizes):
    """What a framer tells for pieces of these sizes, again and again."""
    framer, told, at = Framer(), [], 0
    for many in itertools.cycle(sizes):
        if at >= len(bits):
            return told
        told.append(framer.feed(bits[at:at + many]))
        at += many


class StuffTest(unittest.TestCase):
    def check(self, content, stuffed):
        bits = bits_of(content)
        before = list(bits)
        self.assertEqual(stuff(bits), bits_of(stuffed))
        self.assertEqual(bits, before)
        self.assertEqual(unstuff(bits_of(stuffed)), bits)

    def test_the_empty_content(self):
        self.check("", "")

    def test_zeros_behind_the_flag(self):
        self.check("000", "000")
        self.check("0000", "0000 1")
        self.check("00000", "0000 1 0")
        self.check("0000 0000 0", "0000 1 00000 1")

    def test_five_equal_bits_at_the_end(self):
        self.check("11111", "11111 0")
        self.check("10 11111", "10 11111 0")
        self.check("1 00000", "1 00000 1")

    def test_bits_that_were_put_in_count(self):
        self.check("11111 0000", "11111 0 0000 1")
        self.check("0000 1111", "0000 1 1111 0")
        self.check("11111 0000 1111 0000", "11111 0 0000 1 1111 0 0000 1")

    def test_ten_equal_bits(self):
        self.check("1" * 10, "11111 0 11111 0")
        self.check("1 0000000000", "1 00000 1 00000 1")

    def test_rows_that_are_too_short(self):
        self.check("1111 0 1111 0 000 1 0000", "1111 0 1111 0 000 1 0000")

    def test_all_short_contents(self):
        for bits in all_lists(11):
            told = stuff(bits)
            self.assertEqual(unstuff(told), bits)
            text = F + "".join(str(bit) for bit in told) + F
            self.assertNotIn("000000", text)
            self.assertNotIn("111111", text[7:-7])


class UnstuffTest(unittest.TestCase):
    def check(self, text, place):
        bits = bits_of(text)
        before = list(bits)
        with self.assertRaises(InvalidFrame) as caught:
            unstuff(bits)
        self.assertEqual(caught.exception.place, place)
        self.assertEqual(bits, before)

    def test_the_first_wrong_bit(self):
        self.check("111111", 5)
        self.check("0000 0", 4)
        self.check("10 11111 1", 7)
        self.check("11111 0 11111 1", 11)
        self.check("11111 0 0000 0", 10)
        self.check("11111 1 11111 1", 5)
        self.check("1 00000 0 1", 6)

    def test_bits_that_end_where_one_should_be_taken_out(self):
        self.check("0000", 4)
        self.check("11111", 5)
        self.check("10 0000", 6)
        self.check("11111 0 0000", 10)
        self.check("0000 1 1111", 9)

    def test_all_short_lists(self):
        """A list can be unstuffed exactly if it is a stuffed content."""
        stuffed = {tuple(stuff(bits)) for bits in all_lists(11)}
        for bits in all_lists(11):
            if tuple(bits) in stuffed:
                self.assertEqual(stuff(unstuff(bits)), bits)
            else:
                with self.assertRaises(InvalidFrame):
                    unstuff(bits)


class StreamTest(unittest.TestCase):
    def test_the_flag(self):
        self.assertEqual(FLAG, (0, 1, 1, 1, 1, 1, 1, 0))

    def test_no_contents(self):
        self.assertEqual(stream_of([]), bits_of(F))

    def test_contents(self):
        contents = [[1, 1, 0], [0, 0, 0, 0]]
        self.assertEqual(stream_of(contents), bits_of(F + "110" + F + "00001" + F))
        self.assertEqual(contents, [[1, 1, 0], [0, 0, 0, 0]])

    def test_empty_contents(self):
        self.assertEqual(stream_of([[]]), bits_of(F + F))
        self.assertEqual(stream_of([[], [1], [], []]), bits_of(F + F + "1" + F + F + F))


class FramesTest(unittest.TestCase):
    def check(self, text, expected):
        bits = bits_of(text)
        before = list(bits)
        self.assertEqual(frames_in(bits), expected)
        self.assertEqual(bits, before)
        self.assertEqual(frames_in(turned(bits)), [(place, -sign, content) for place, sign, content in expected])

    def test_no_frame(self):
        for text in ["", "0", F, F[:7], F + "1010", "1010" + F, F + F, F + F + F, "01" * 20]:
            self.check(text, [])

    def test_one_frame(self):
        self.check(F + "110" + F, [(0, 1, (1, 1, 0))])
        self.check("10" + F + "110" + F + "01", [(2, 1, (1, 1, 0))])

    def test_several_frames_and_flags(self):
        self.check(F + "1" + F + F + "0" + F, [(0, 1, (1,)), (17, 1, (0,))])

    def test_stuffed_contents(self):
        self.check(F + "00001" + F + "111110" + F, [(0, 1, (0, 0, 0, 0)), (13, 1, (1, 1, 1, 1, 1))])

    def test_bits_that_cannot_be_unstuffed(self):
        self.check(F + "11111" + F, [(0, 1, None)])
        self.check(F + "0000" + F, [(0, 1, None)])
        self.check(F + "1010 000000 10" + F + "1" + F, [(0, 1, None), (20, 1, (1,))])

    def test_flags_that_share_a_bit(self):
        self.check("0111111 0 111111 0", [])
        # The first and the third flag are marks; what is between them begins with the second one's ones.
        self.check("0111111 0 111111 0" + F, [(0, 1, None)])
        self.check("0111111 0 111111 0 10" + F, [(0, 1, None)])

    def test_marks_of_both_signs(self):
        self.check(F + "10" + T, [])
        self.check(T + "10" + F + "110" + F, [(10, 1, (1, 1, 0))])
        self.check(F + "10" + T + "10" + F, [])
        self.check(F + "10" + F + T + "110" + T, [(0, 1, (1, 0)), (18, -1, (0, 0, 1))])

    def test_a_flag_and_a_turned_flag_that_share_bits(self):
        self.check("0111111 0000001", [])
        self.check(F + "000001 00" + F, [(0, 1, None)])

    def test_any_bits(self):
        rng = random.Random(5)
        for _ in range(300):
            parts = [rng.choice([F, F, T, T, F[:-1], T[1:], "0", "1", "10", "00001", "11111"]) for _ in range(12)]
            bits = bits_of("".join(parts))
            self.assertEqual(frames_in(bits), expected_frames(bits))

    def test_any_part_of_a_stream(self):
        """Point 07.6, for each part of some streams, upright and turned over."""
        rng = random.Random(6)
        for _ in range(6):
            contents = [[rng.choice((0, 0, 0, 1)) ^ (k % 2) for _ in range(rng.choice((0, 1, 4, 9)))] for k in range(5)]
            bits = stream_of(contents)
            places, at = [], 0
            for content in contents:
                places.append((at, at + 8 + len(stuff(content)) + 8, content))
                at += 8 + len(stuff(content))
            for begin in range(len(bits) + 1):
                for end in range(begin, len(bits) + 1):
                    expected = [(first - begin, 1, tuple(content)) for first, last, content in places
                                if content and begin <= first and last <= end]
                    self.check("".join(str(bit) for bit in bits[begin:end]), expected)


class FramerTest(unittest.TestCase):
    def check(self, bits):
        expected = expected_frames(bits)
        self.assertEqual(Framer().feed(bits), expected)
        for sizes in ([1], [1, 0], [0, 0, 7], [8], [3, 5], [9, 1, 2], [13], [100, 1]):
            pieces = fed(bits, sizes)
            self.assertEqual([frame for told in pieces for frame in told], expected)

    def test_the_pieces_tell_the_same_frames(self):
        rng = random.Random(7)
        for _ in range(60):
            parts = [rng.choice([F, F, T, F[:-1], T[1:], "0", "1", "110", "00001", "11111"]) for _ in range(15)]
            self.check([rng.randint(0, 1) for _ in range(5)] + bits_of("".join(parts)))
        self.check(stream_of([[1, 1, 0], [], [0] * 20, [1] * 20]))
        self.check(turned(stream_of([[1, 1, 0], [], [0] * 20, [1] * 20])))

    def test_a_frame_is_told_when_its_second_mark_ends(self):
        bits = stream_of([[1, 0]]) + [0, 1]
        told = fed(bits, [1])
        self.assertEqual([k for k, frames in enumerate(told) if frames], [17])
        self.assertEqual(told[17], [(0, 1, (1, 0))])

    def test_empty_pieces(self):
        framer = Framer()
        self.assertEqual(framer.feed([]), [])
        self.assertEqual(framer.feed(stream_of([[1]])), [(0, 1, (1,))])
        self.assertEqual(framer.feed([]), [])
        self.assertEqual(framer.feed([0, 1] + list(FLAG)), [(9, 1, (0, 1))])

    def test_places_count_from_the_first_bit_of_all(self):
        framer = Framer()
        framer.feed([1, 0] * 50)
        self.assertEqual(framer.feed(stream_of([[1], [0]])), [(100, 1, (1,)), (109, 1, (0,))])
        self.assertEqual(framer.feed(stream_of([[1, 1]])), [(126, 1, (1, 1))])

    def test_the_pieces_are_as_before_and_are_not_kept(self):
        framer, piece = Framer(), stream_of([])
        self.assertEqual(framer.feed(piece), [])
        self.assertEqual(piece, list(FLAG))
        piece[0] = 1
        self.assertEqual(framer.feed([1, 0] + list(FLAG)), [(0, 1, (1, 0))])

    def test_two_framers_have_nothing_in_common(self):
        first, second = Framer(), Framer()
        first.feed(stream_of([]))
        self.assertEqual(second.feed([1] + list(FLAG)), [])
        self.assertEqual(first.feed([1] + list(FLAG)), [(0, 1, (1,))])

    def test_a_framer_is_equal_to_no_other_value(self):
        for other in (None, 0, [], "x"):
            self.assertFalse(Framer() == other)


if __name__ == "__main__":
    unittest.main()
