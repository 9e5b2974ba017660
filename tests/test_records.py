import random
import unittest

from rangekeep.errors import InvalidFrame
from rangekeep.framing import frames_in, stream_of
from rangekeep.records import Collector, cells_of, contents_of, is_record, pages_of, read_page, read_record
from rangekeep.words import read_words, words_of

TOP = 2 ** 40 - 1
TIME = ("time", 3000)
ORBIT = ("orbit", 5, TOP, 1, -1, 1024, -1024, 0, TOP, -TOP, 7, -70000)
WIDE = ("orbit", TOP, TOP) + (-TOP,) * 9
CLOCK = ("clock", 3000, -1, 0)
KEY = ("key", 1023, 1024)
TAG = ("tag", 0, TOP, 17)
RECORDS = [TIME, ORBIT, CLOCK, KEY, TAG, WIDE]
KINDS = {"time": "c", "orbit": "ccnnnnnnnnn", "clock": "cnn", "key": "cc", "tag": "ccc"}


def check_of(cells):
    total = 1
    for k in range(len(cells)):
        total += cells[k] * (k + 1)
    return total % 2039


def page(number, index, count, cells):
    """The content of any page, also of one that is none."""
    told = [number, 8 * index + count - 1] + list(cells)
    return words_of(told + [check_of(told)])


def turned(bits, *places):
    return [1 - bit if place in places else bit for place, bit in enumerate(bits)]


def random_record(rng):
    word = rng.choice(sorted(KINDS))
    facts = []
    for kind in KINDS[word]:
        size = rng.choice((1, 10, 11, 20, 40))
        least = 0 if kind == "c" else 1 - 2 ** size
        facts.append(rng.choice((least, rng.randint(least, 2 ** size - 1), 2 ** size - 1)))
    return (word, *facts)


class IsRecordTest(unittest.TestCase):
    def test_each_word(self):
        for record in RECORDS:
            self.assertIs(is_record(record), True)

    def test_facts_at_the_bounds_and_just_outside(self):
        for word, kinds in KINDS.items():
            for place, kind in enumerate(kinds):
                for fact in (-2 ** 40, -TOP, -1, 0, 1, TOP, 2 ** 40):
                    facts = [3] * len(kinds)
                    facts[place] = fact
                    least = 0 if kind == "c" else -TOP
                    with self.subTest(word=word, place=place, fact=fact):
                        self.assertIs(is_record((word, *facts)), least <= fact <= TOP)

    def test_one_fact_more_and_one_fewer(self):
        for record in RECORDS:
            self.assertIs(is_record(record + (0,)), False)
            self.assertIs(is_record(record[:-1]), False)

    def test_an_unknown_word(self):
        for value in [("Time", 3), ("", 3), ("orbits", 3), (1, 3), (3, "time"), ("key",)]:
            self.assertIs(is_record(value), False)

    def test_truth_values_and_strings_are_no_facts(self):
        for record in RECORDS:
            for place in range(1, len(record)):
                for fact in (True, False, "3", "time"):
                    self.assertIs(is_record(record[:place] + (fact,) + record[place + 1:]), False)
        self.assertIs(is_record((True, 3)), False)

    def test_the_empty_tuple(self):
        self.assertIs(is_record(()), False)

    def test_a_list_is_no_record(self):
        self.assertIs(is_record(["time", 3]), False)


class CellsTest(unittest.TestCase):
    def check(self, record, cells):
        self.assertEqual(cells_of(record), cells)
        before = list(cells)
        self.assertEqual(read_record(cells), record)
        self.assertEqual(cells, before)

    def test_counts(self):
        self.check(("time", 0), [1, 0])
        self.check(("time", 1023), [1, 1023])
        self.check(("time", 1024), [1, 1024, 1])
        self.check(("time", 1024 * 1024 - 1), [1, 2047, 1023])
        self.check(("time", 1024 * 1024), [1, 1024, 1024, 1])
        self.check(("time", TOP), [1, 2047, 2047, 2047, 1023])

    def test_numbers(self):
        for number, cells in [(0, [0]), (-1, [1]), (1, [2]), (511, [1022]), (-512, [1023]), (512, [1024, 1]),
                              (-513, [1025, 1]), (TOP, [2046, 2047, 2047, 2047, 1]),
                              (-TOP, [2045, 2047, 2047, 2047, 1])]:
            self.check(("clock", 7, number, 4), [3, 7] + cells + [8])
            self.check(("clock", 7, 4, number), [3, 7, 8] + cells)

    def test_each_word(self):
        self.check(("time", 9), [1, 9])
        self.check(("orbit", 0, 1, 1, -1, 2, -2, 3, -3, 4, -4, 5), [2, 0, 1, 2, 1, 4, 3, 6, 5, 8, 7, 10])
        self.check(("clock", 3000, -1, 0), [3, 1976, 2, 1, 0])
        self.check(("key", 1, 2), [4, 1, 2])
        self.check(("tag", 1, 2, 3), [5, 1, 2, 3])

    def test_any_records(self):
        rng = random.Random(8)
        for record in RECORDS + [random_record(rng) for _ in range(200)]:
            cells = cells_of(record)
            self.assertTrue(all(0 <= cell <= 2047 for cell in cells))
            self.assertEqual(read_record(cells), record)


class InvalidCellsTest(unittest.TestCase):
    def check(self, cells, place):
        before = list(cells)
        with self.assertRaises(InvalidFrame) as caught:
            read_record(cells)
        self.assertEqual(caught.exception.place, place, cells)
        self.assertEqual(cells, before)

    def test_no_cells(self):
        self.check([], 0)

    def test_cells_that_are_missing(self):
        for record in RECORDS:
            cells = cells_of(record)
            for many in range(1, len(cells)):
                self.check(cells[:many], many)
        self.check([1, 1024, 1024, 1024, 1024], 5)

    def test_a_first_cell_that_is_no_code(self):
        for cell in (0, 6, 7, 1023, 1024, 1025, 2047):
            self.check([cell], 0)
            self.check([cell, 5, 5, 5], 0)

    def test_a_fact_of_more_than_five_cells(self):
        self.check([1] + [1024] * 5, 1)
        self.check([1] + [1024] * 5 + [1], 1)
        self.check([1] + [2047] * 9, 1)
        self.check([4, 3] + [1024] * 5 + [0], 2)
        self.check([3, 1025, 1] + [1024] * 5, 3)

    def test_a_fact_whose_last_cell_is_0(self):
        self.check([1, 1024, 0], 1)
        self.check([4, 7, 2047, 0], 2)
        self.check([3, 7, 1030, 1030, 1030, 1030, 0, 5], 2)
        self.check([5, 0, 0, 1024, 0, 5], 3)

    def test_a_fact_outside_the_bounds(self):
        self.check([1, 1024, 1024, 1024, 1024, 1], 1)
        self.check([4, 3, 2047, 2047, 2047, 2047, 1023], 2)
        self.check([3, 1, 2047, 2047, 2047, 2047, 1, 0], 2)
        self.check([3, 1, 0, 1024, 1024, 1024, 1024, 2], 3)
        self.check([3, 1, 1025, 1024, 1024, 1024, 2], 2)

    def test_a_cell_behind_the_record(self):
        for record in RECORDS:
            cells = cells_of(record)
            for more in ([0], [1024], [1, 2, 3]):
                self.check(cells + more, len(cells))

    def test_the_first_fault_counts(self):
        self.check([3, 1, 1024, 0], 2)
        self.check([1, 1024, 0, 9, 9], 1)
        self.check([4, 1024, 1024, 1024, 1024, 1, 1024, 0], 1)
        self.check([6, 1024, 0], 0)


class PagesTest(unittest.TestCase):
    def check(self, record, number):
        pages = pages_of(record, number)
        cells = cells_of(record)
        count = (len(cells) + 11) // 12
        self.assertEqual(len(pages), count)
        self.assertEqual([cell for told in pages for cell in told[2:-1]], cells)
        for index, told in enumerate(pages):
            self.assertEqual(told[:2], [(number + index) % 2048, 8 * index + count - 1])
            self.assertEqual(len(told), 15 if index < count - 1 else 3 + len(cells) - 12 * index)
            self.assertEqual(told[-1], check_of(told[:-1]))

    def test_one_page(self):
        self.assertEqual(pages_of(("time", 7), 2047), [[2047, 0, 1, 7, 40]])
        for record in (TIME, CLOCK, KEY, TAG):
            self.check(record, 4)

    def test_several_pages(self):
        self.assertEqual(len(pages_of(WIDE, 0)), 5)
        for record in (ORBIT, WIDE):
            for number in (0, 5, 2043, 2046, 2047):
                self.check(record, number)

    def test_a_last_part_that_is_whole(self):
        record = ("orbit", 0, 1, 1, -1, 2, -2, 3, -3, 4, -4, 5)
        self.assertEqual(len(cells_of(record)), 12)
        self.check(record, 9)
        self.assertEqual(len(pages_of(record, 9)), 1)

    def test_contents(self):
        records = [WIDE, TIME, ORBIT, KEY]
        for number in (0, 100, 2042, 2047):
            expected, now = [], number
            for record in records:
                for told in pages_of(record, now):
                    expected.append(words_of(told))
                    now = (now + 1) % 2048
            self.assertEqual(contents_of(records, number), expected)
        self.assertEqual(contents_of([], 5), [])
        self.assertEqual(records, [WIDE, TIME, ORBIT, KEY])

    def test_the_numbers_go_from_2047_to_0(self):
        numbers = [read_words(content)[0] for content in contents_of([WIDE, TIME, ORBIT], 2045)]
        self.assertEqual(numbers[:8], [2045, 2046, 2047, 0, 1, 2, 3, 4])


class ReadPageTest(unittest.TestCase):
    def test_pages(self):
        for record in RECORDS:
            for told in pages_of(record, 2046):
                expected = (told[0], told[1] // 8, told[1] % 8 + 1, tuple(told[2:-1]))
                content = words_of(told)
                self.assertEqual(read_page(content), expected)
                self.assertEqual(content, words_of(told))

    def test_one_changed_bit_in_each_word(self):
        content = contents_of([CLOCK], 9)[0]
        for place in range(16):
            bad = turned(content, *[at + (place + at // 16) % 16 for at in range(0, len(content), 16)])
            self.assertEqual(read_page(bad), read_page(content))
            self.assertIsNotNone(read_page(bad))

    def test_two_changed_bits_in_one_word(self):
        content = contents_of([CLOCK], 9)[0]
        for at in range(0, len(content), 16):
            self.assertIsNone(read_page(turned(content, at + 2, at + 11)))

    def test_bits_that_are_no_words(self):
        content = contents_of([TIME], 9)[0]
        for bits in ([], [0], content[:-1], content + [0]):
            self.assertIsNone(read_page(bits))

    def test_a_wrong_check(self):
        told = pages_of(CLOCK, 9)[0]
        for more in (1, 2, 100):
            self.assertIsNone(read_page(words_of(told[:-1] + [(told[-1] + more) % 2039])))
        self.assertIsNone(read_page(words_of([told[0] + 1] + told[1:])))
        self.assertIsNone(read_page(words_of(told[:2] + [told[3], told[2]] + told[4:])))
        small = next(row for row in (pages_of(TIME, number)[0] for number in range(2048)) if row[-1] < 9)
        self.assertIsNone(read_page(words_of(small[:-1] + [small[-1] + 2039])))

    def test_the_number_of_pages(self):
        full = list(range(12))
        for index in range(10):
            for count in range(1, 9):
                expected = (7, index, count, tuple(full)) if index < count else None
                self.assertEqual(read_page(page(7, index, count, full)), expected)
                expected = (7, index, count, (1, 2)) if index == count - 1 else None
                self.assertEqual(read_page(page(7, index, count, [1, 2])), expected)

    def test_the_number_of_cells(self):
        self.assertIsNone(read_page(page(7, 0, 1, [])))
        self.assertEqual(read_page(page(7, 0, 1, [3])), (7, 0, 1, (3,)))
        self.assertEqual(read_page(page(7, 0, 1, [3] * 12)), (7, 0, 1, (3,) * 12))
        self.assertIsNone(read_page(page(7, 0, 1, [3] * 13)))
        self.assertIsNone(read_page(page(7, 0, 2, [3] * 11)))
        self.assertIsNone(read_page(words_of([0, 3])))
        self.assertIsNone(read_page(words_of([0])))


class CollectorTest(unittest.TestCase):
    def taken(self, contents):
        collector = Collector()
        return [collector.take(content) for content in contents]

    def setUp(self):
        self.pages = contents_of([WIDE], 2046)
        self.assertEqual(len(self.pages), 5)

    def test_all_pages(self):
        self.assertEqual(self.taken(self.pages), [None] * 4 + [WIDE])

    def test_several_records(self):
        told = self.taken(contents_of(RECORDS, 2040))
        self.assertEqual([record for record in told if record is not None], RECORDS)
        self.assertEqual(self.taken(contents_of([TIME, KEY, TIME], 7)), [TIME, KEY, TIME])

    def test_a_page_that_is_missing(self):
        for missing in range(5):
            rest = self.pages[:missing] + self.pages[missing + 1:]
            self.assertEqual(self.taken(rest + contents_of([TIME], 3)), [None] * 4 + [TIME])

    def test_a_page_that_comes_twice(self):
        for twice in range(5):
            pages = self.pages[:twice + 1] + self.pages[twice:]
            told = self.taken(pages)
            # The first page begins a record anew, and behind the last one there is nothing to keep.
            if twice == 0:
                self.assertEqual(told, [None] * 5 + [WIDE])
            elif twice == 4:
                self.assertEqual(told, [None] * 4 + [WIDE, None])
            else:
                self.assertEqual(told, [None] * 6)

    def test_pages_that_change_places(self):
        first, second, *rest = self.pages
        self.assertEqual(self.taken([second, first] + rest), [None] * 5)
        self.assertEqual(self.taken([first] + rest[:1] + [second] + rest[1:]), [None] * 5)

    def test_a_content_that_is_no_page(self):
        bad = turned(self.pages[1], 0, 1)
        for content in ([], [0] * 16, bad, [1]):
            for place in range(6):
                told = self.taken(self.pages[:place] + [content] + self.pages[place:])
                expected = [None] * 4 + [WIDE]
                expected.insert(place, None)
                self.assertEqual(told, expected)

    def test_a_page_that_replaces_a_bad_one(self):
        bad = turned(self.pages[2], 20, 21)
        self.assertEqual(self.taken(self.pages[:2] + [bad] + self.pages[3:]), [None] * 5)

    def test_a_record_that_is_not_whole_before_another_one(self):
        for many in range(1, 5):
            contents = self.pages[:many] + contents_of([ORBIT], (2046 + many) % 2048)
            told = self.taken(contents)
            self.assertEqual([record for record in told if record is not None], [ORBIT])
        told = self.taken(self.pages[:3] + contents_of([TIME], 900) + self.pages[3:])
        self.assertEqual(told, [None] * 3 + [TIME] + [None] * 2)

    def test_the_number_of_the_frame_is_the_next_one(self):
        cells = cells_of(WIDE)
        parts = [cells[at:at + 12] for at in range(0, len(cells), 12)]
        for numbers, told in [((8, 9, 10, 11, 12), WIDE), ((2046, 2047, 0, 1, 2), WIDE), ((8, 9, 10, 11, 13), None),
                              ((8, 8, 9, 10, 11), None), ((8, 9, 10, 10, 11), None), ((2047, 2047, 0, 1, 2), None)]:
            contents = [page(number, index, 5, parts[index]) for index, number in enumerate(numbers)]
            self.assertEqual(self.taken(contents), [None] * 4 + [told])

    def test_the_index_is_the_next_one(self):
        cells = cells_of(WIDE)
        parts = [cells[at:at + 12] for at in range(0, len(cells), 12)]
        for indexes, told in [((0, 1, 2, 3, 4), WIDE), ((0, 2, 2, 3, 4), None), ((0, 1, 1, 3, 4), None),
                              ((0, 1, 3, 3, 4), None), ((0, 1, 2, 2, 4), None), ((1, 1, 2, 3, 4), None)]:
            contents = [page(8 + k, index, 5, parts[k]) for k, index in enumerate(indexes)]
            self.assertEqual(self.taken(contents), [None] * 4 + [told])

    def test_what_was_kept_is_forgotten_at_a_wrong_index(self):
        cells = cells_of(WIDE)
        parts = [cells[at:at + 12] for at in range(0, len(cells), 12)]
        for indexes, told in [((0, 2, 1, 2, 3, 4), None), ((0, 1, 3, 2, 3, 4), None), ((0, 0, 1, 2, 3, 4), WIDE),
                              ((0, 1, 2, 0, 1, 2, 3, 4), WIDE), ((0, 1, 2, 3, 0, 4), None)]:
            contents = [page(8 + k, index, 5, parts[index]) for k, index in enumerate(indexes)]
            self.assertEqual(self.taken(contents), [None] * (len(indexes) - 1) + [told])

    def test_the_number_of_pages_is_the_same(self):
        cells = cells_of(("orbit", 9, 9) + (TOP,) * 2 + (0,) * 7)
        self.assertEqual(len(cells), 20)
        self.assertEqual(self.taken([page(1, 0, 2, cells[:12]), page(2, 1, 2, cells[12:])])[1], read_record(cells))
        wrong = [page(1, 0, 3, cells[:12]), page(2, 1, 2, cells[12:])]
        self.assertEqual(self.taken(wrong), [None, None])

    def test_a_page_counts_as_taken_though_it_is_not_kept(self):
        first, second = contents_of([("orbit", 9, 9) + (TOP,) * 2 + (0,) * 7], 10)
        other = page(11, 4, 5, [0])
        self.assertEqual(self.taken([first, other, second]), [None] * 3)
        self.assertEqual(self.taken([other, first, second])[2][0], "orbit")
        # The page is the next one behind a page that was not kept, but not that of the record that began.
        self.assertEqual(self.taken([first, page(77, 1, 2, [0]), page(78, 1, 2, [0])]), [None] * 3)

    def test_what_was_kept_is_forgotten_when_a_record_is_told(self):
        first, second = contents_of([("orbit", 9, 9) + (TOP,) * 2 + (0,) * 7], 10)
        told = self.taken([first, second, page(12, 2, 3, [0]), page(13, 1, 2, [0])])
        self.assertEqual([record is None for record in told], [True, False, True, True])

    def test_cells_that_are_no_record(self):
        self.assertEqual(self.taken([page(3, 0, 1, [1, 1024, 0]), page(4, 0, 1, [1, 5])]), [None, ("time", 5)])
        self.assertEqual(self.taken([page(3, 0, 1, [9, 9])]), [None])
        # What could not be read is forgotten, too.
        self.assertEqual(self.taken([page(3, 0, 1, [1] + [1024] * 2), page(4, 1, 2, [1])]), [None, None])

    def test_the_content_is_as_before(self):
        contents = contents_of([WIDE], 0)
        self.taken(contents)
        self.assertEqual(contents, contents_of([WIDE], 0))

    def test_frames_that_are_lost(self):
        """Point 08.7: the records that are told are those whose pages all arrived."""
        rng = random.Random(9)
        for loss in (0.05, 0.2, 0.5):
            records = [random_record(rng) for _ in range(1000)]
            collector, number = Collector(), rng.randint(0, 2047)
            for record in records:
                contents = contents_of([record], number)
                number = (number + len(contents)) % 2048
                arrived = [content for content in contents if rng.random() >= loss]
                told = [collector.take(content) for content in arrived]
                expected = [record] if len(arrived) == len(contents) else []
                self.assertEqual([record for record in told if record is not None], expected)

    def test_from_a_stream_of_frames(self):
        collector = Collector()
        bits = [1 - bit for bit in stream_of(contents_of(RECORDS, 2044))]
        told = [collector.take(list(content)) for _, _, content in frames_in(bits)]
        self.assertEqual([record for record in told if record is not None], RECORDS)

    def test_two_collectors_have_nothing_in_common(self):
        first, second = Collector(), Collector()
        for content in self.pages[:4]:
            first.take(content)
        self.assertIsNone(second.take(self.pages[4]))
        self.assertEqual(first.take(self.pages[4]), WIDE)


if __name__ == "__main__":
    unittest.main()
