"""Records: what senders tell, written as cells and sent in pages."""

from rangekeep.errors import InvalidBits, InvalidFrame
from rangekeep.forms import is_whole
from rangekeep.words import read_words, words_of

# The code of a record is the place of its word here, counted from 1.
WORDS = ("time", "orbit", "clock", "key", "tag")
# The facts of each word: c stands for a count, n for a number.
COUNT = "c"
FACTS = {"time": "c", "orbit": "ccnnnnnnnnn", "clock": "cnn", "key": "cc", "tag": "ccc"}
LIMIT = 2 ** 40
BASE = 1024
LONGEST_FACT = 5
PART = 12
MOST_PAGES = 8
NUMBERS = 2048
CHECK_MODULUS = 2039


def is_record(value):
    """Tell whether a tuple is a record."""
    if not isinstance(value, tuple) or len(value) == 0 or value[0] not in WORDS:
        return False
    kinds = FACTS[value[0]]
    return len(value) == 1 + len(kinds) and all([_fits(kind, fact) for kind, fact in zip(kinds, value[1:])])


def _fits(kind, fact):
    """Tell whether a value is a count or a number within its bounds."""
    least = 0 if kind == COUNT else 1 - LIMIT
    return is_whole(fact) and least <= fact < LIMIT


def cells_of(record):
    """Return the cells of a record."""
    cells = [WORDS.index(record[0]) + 1]
    for kind, fact in zip(FACTS[record[0]], record[1:]):
        cells.extend(_cells_of_count(fact if kind == COUNT else _count_of(fact)))
    return cells


def _count_of(number):
    return 2 * number if number >= 0 else -2 * number - 1


def _number_of(count):
    return count // 2 if count % 2 == 0 else -(count + 1) // 2


def _cells_of_count(count):
    cells = []
    while count >= BASE:
        cells.append(BASE + count % BASE)
        count //= BASE
    return cells + [count]


def read_record(cells):
    """Return the record that is written as the cells."""
    if len(cells) == 0 or not 1 <= cells[0] <= len(WORDS):
        raise InvalidFrame(0)
    word = WORDS[cells[0] - 1]
    facts, at = [], 1
    for kind in FACTS[word]:
        count, end = _read_count(cells, at)
        fact = count if kind == COUNT else _number_of(count)
        if not _fits(kind, fact):
            raise InvalidFrame(at)
        facts.append(fact)
        at = end
    if at < len(cells):
        raise InvalidFrame(at)
    return (word, *facts)


def _read_count(cells, at):
    """Return the count whose first cell is at a place, and the place behind its last cell."""
    last = at
    while last < len(cells) and cells[last] >= BASE:
        last += 1
        if last - at == LONGEST_FACT:
            raise InvalidFrame(at)
    if last == len(cells):
        raise InvalidFrame(last)
    if last > at and cells[last] == 0:
        raise InvalidFrame(at)
    count = 0
    for cell in reversed(cells[at:last + 1]):
        count = count * BASE + cell % BASE
    return count, last + 1


def pages_of(record, number):
    """Return the cells of the pages of a record, the first one with this number of the frame."""
    cells = cells_of(record)
    parts = [cells[at:at + PART] for at in range(0, len(cells), PART)]
    pages = []
    for index, part in enumerate(parts):
        page = [(number + index) % NUMBERS, MOST_PAGES * index + len(parts) - 1] + part
        pages.append(page + [_check(page)])
    return pages


def _check(cells):
    return (1 + sum([place * cell for place, cell in enumerate(cells, start=1)])) % CHECK_MODULUS


def contents_of(records, number):
    """Return the contents of all pages of the records, whose frames are numbered from this number on."""
    contents = []
    for record in records:
        pages = pages_of(record, (number + len(contents)) % NUMBERS)
        contents.extend([words_of(page) for page in pages])
    return contents


def read_page(content):
    """Return the number of the frame, the index, the number of pages and the cells of a page; or None."""
    try:
        cells = read_words(content)
    except InvalidBits:
        return None
    if not 4 <= len(cells) <= PART + 3 or cells[-1] != _check(cells[:-1]):
        return None
    index, count = cells[1] // MOST_PAGES, cells[1] % MOST_PAGES + 1
    own = cells[2:-1]
    # Only the last page may be shorter than a whole part.
    if index >= count or (len(own) < PART and index != count - 1):
        return None
    return cells[0], index, count, tuple(own)


class Collector:
    """Takes pages in the order in which they come, and tells the records that arrived whole."""

    def __init__(self):
        self._forget()
        # The number of the frame that follows the page that was taken last; it counts only if pages are kept.
        self._number = 0

    def _forget(self):
        self._cells = []
        # How many pages are kept: the index of the page that is waited for.
        self._kept = 0
        self._count = 0

    def take(self, content):
        """Take a content, and return the record that is told now, or None."""
        page = read_page(content)
        if page is None:
            return None
        number, index, count, cells = page
        if number != self._number or index != self._kept or count != self._count:
            self._forget()
        self._number = (number + 1) % NUMBERS
        # Where no page is kept, the one that is waited for is one with the index 0.
        if index != self._kept:
            return None
        self._cells.extend(cells)
        self._kept += 1
        self._count = count
        return self._read() if self._kept == count else None

    def _read(self):
        """Return the record of the pages that are kept, or None if it cannot be read, and forget them."""
        cells = self._cells
        self._forget()
        try:
            return read_record(cells)
        except InvalidFrame:
            return None
