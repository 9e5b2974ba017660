"""Words: cells with check bits, which mend one wrong bit and tell two."""

from rangekeep.errors import InvalidBits

SIZE = 16
CELL_PLACES = (3, 5, 6, 7, 9, 10, 11, 12, 13, 14, 15)
CHECK_PLACES = (1, 2, 4, 8)


def word_of(cell):
    """Return the bits of a cell."""
    bits = [0] * SIZE
    for place in reversed(CELL_PLACES):
        bits[place] = cell & 1
        cell >>= 1
    for place in CHECK_PLACES:
        bits[place] = _parity(bits, place)
    bits[0] = sum(bits) % 2
    return tuple(bits)


def read_word(bits):
    """Return the cell and the place of the bit that was mended; or None if it cannot be read."""
    wrong = sum([place for place in CHECK_PLACES if _parity(bits, place) == 1])
    if sum(bits) % 2 == 1:
        return _cell(bits, wrong), wrong
    if wrong > 0:
        return None
    return _cell(bits, None), None


def _parity(bits, check):
    """Return the sum modulo 2 of the bits whose place has the weight of a check."""
    return sum([bit for place, bit in enumerate(bits) if place & check]) % 2


def _cell(bits, wrong):
    """Return the cell of a word whose bit at a place is wrong."""
    cell = 0
    for place in CELL_PLACES:
        bit = 1 - bits[place] if place == wrong else bits[place]
        cell = 2 * cell + bit
    return cell


def words_of(cells):
    """Return the bits of the words of the cells, one behind the other."""
    return [bit for cell in cells for bit in word_of(cell)]


def read_words(bits):
    """Return the cells of the words that the bits are made of."""
    if len(bits) % SIZE != 0:
        raise InvalidBits(len(bits))
    cells = []
    for at in range(0, len(bits), SIZE):
        told = read_word(tuple(bits[at:at + SIZE]))
        if told is None:
            raise InvalidBits(at)
        cell, _ = told
        cells.append(cell)
    return cells
