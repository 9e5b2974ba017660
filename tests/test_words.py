import itertools
import unittest

from rangekeep.errors import InvalidBits
from rangekeep.words import read_word, read_words, word_of, words_of

CELLS = [0, 1, 2, 5, 64, 777, 1023, 1024, 1365, 2046, 2047]
CELL_PLACES = [3, 5, 6, 7, 9, 10, 11, 12, 13, 14, 15]


def turned(word, *places):
    return tuple([1 - bit if place in places else bit for place, bit in enumerate(word)])


class WordOfTest(unittest.TestCase):
    def test_some_cells(self):
        self.assertEqual(word_of(0), (0,) * 16)
        self.assertEqual(word_of(2047), (1,) * 16)
        self.assertEqual(word_of(1024), (1, 1, 1, 1) + (0,) * 12)
        self.assertEqual(word_of(1), (1, 1, 1, 0, 1, 0, 0, 0, 1, 0, 0, 0, 0, 0, 0, 1))
        self.assertEqual(word_of(2), (0, 0, 1, 0, 1, 0, 0, 0, 1, 0, 0, 0, 0, 0, 1, 0))

    def test_the_bits_of_the_cell(self):
        for cell in range(2048):
            word = word_of(cell)
            self.assertEqual([word[place] for place in CELL_PLACES], [int(sign) for sign in f"{cell:011b}"])

    def test_the_check_bits(self):
        for cell in range(2048):
            word = word_of(cell)
            self.assertIsInstance(word, tuple)
            for weight in (1, 2, 4, 8):
                self.assertEqual(sum(word[place] for place in range(1, 16) if place & weight) % 2, 0)
            self.assertEqual(sum(word) % 2, 0)

    def test_different_words_differ_in_four_places(self):
        words = [word_of(cell) for cell in range(0, 2048, 13)]
        for a, b in itertools.combinations(words, 2):
            self.assertGreaterEqual(sum(x != y for x, y in zip(a, b)), 4)
        self.assertEqual(min(sum(word_of(cell)) for cell in range(1, 2048)), 4)


class ReadWordTest(unittest.TestCase):
    def test_nothing_is_wrong(self):
        for cell in range(2048):
            self.assertEqual(read_word(word_of(cell)), (cell, None))

    def test_each_single_bit(self):
        for cell in CELLS:
            for place in range(16):
                self.assertEqual(read_word(turned(word_of(cell), place)), (cell, place))

    def test_each_two_bits(self):
        for cell in CELLS:
            for first, second in itertools.combinations(range(16), 2):
                self.assertIsNone(read_word(turned(word_of(cell), first, second)))


class WordsOfTest(unittest.TestCase):
    def test_one_behind_the_other(self):
        self.assertEqual(words_of([]), [])
        self.assertEqual(words_of([1024, 1]), list(word_of(1024) + word_of(1)))
        cells = list(CELLS)
        self.assertEqual(words_of(cells), [bit for cell in CELLS for bit in word_of(cell)])
        self.assertEqual(cells, CELLS)


class ReadWordsTest(unittest.TestCase):
    def assert_fails(self, bits, place):
        before = list(bits)
        with self.assertRaises(InvalidBits) as caught:
            read_words(bits)
        self.assertEqual(caught.exception.place, place)
        self.assertEqual(bits, before)

    def test_no_bits(self):
        self.assertEqual(read_words([]), [])

    def test_words(self):
        self.assertEqual(read_words(words_of(CELLS)), CELLS)

    def test_mended_words(self):
        bits = words_of(CELLS)
        for k in range(len(CELLS)):
            bits[16 * k + k] = 1 - bits[16 * k + k]
        self.assertEqual(read_words(bits), CELLS)

    def test_a_number_of_bits_that_is_no_multiple_of_16(self):
        for many in (1, 15, 17, 31, 33, 40):
            self.assert_fails(words_of([7, 7, 7])[:many], many)

    def test_the_number_comes_before_a_word_that_cannot_be_read(self):
        self.assert_fails(list(turned(word_of(5), 3, 4)) + [0], 17)

    def test_a_word_that_cannot_be_read(self):
        good = list(word_of(1000))
        bad = list(turned(word_of(1000), 0, 9))
        self.assert_fails(bad, 0)
        self.assert_fails(bad + good, 0)
        self.assert_fails(good + bad + good, 16)
        self.assert_fails(good + good + bad, 32)

    def test_the_first_of_two_words_that_cannot_be_read(self):
        good = list(word_of(3))
        self.assert_fails(good + list(turned(word_of(4), 1, 2)) + list(turned(word_of(5), 1, 2)), 16)


if __name__ == "__main__":
    unittest.main()
