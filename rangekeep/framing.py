"""Frames: contents between flags, which are told from any bits, also turned over ones."""

from rangekeep.errors import InvalidFrame

FLAG = (0, 1, 1, 1, 1, 1, 1, 0)
TURNED_FLAG = (1, 0, 0, 0, 0, 0, 0, 1)
LONGEST_ROW = 5


def stuff(bits):
    """Return the bits with one of the other kind put in behind each five equal ones."""
    told = []
    last, row = 0, 1
    for bit in bits:
        told.append(bit)
        row = row + 1 if bit == last else 1
        last = bit
        if row == LONGEST_ROW:
            last, row = 1 - bit, 1
            told.append(last)
    return told


def unstuff(bits):
    """Return the bits without those that were put in."""
    told = []
    last, row = 0, 1
    for place, bit in enumerate(bits):
        if row < LONGEST_ROW:
            told.append(bit)
            row = row + 1 if bit == last else 1
        elif bit == last:
            raise InvalidFrame(place)
        else:
            row = 1
        last = bit
    if row == LONGEST_ROW:
        raise InvalidFrame(len(bits))
    return told


def stream_of(contents):
    """Return the bits of a stream of frames."""
    told = list(FLAG)
    for content in contents:
        told.extend(stuff(content) + list(FLAG))
    return told


def frames_in(bits):
    """Return the frames that are told by the bits."""
    return Framer().feed(bits)


class Framer:
    """Takes bits in pieces, and tells the frames that end in each piece.

    It keeps the bits from the last mark on, as a frame may begin there; if
    there was no mark yet, those in which one may have begun.
    """

    def __init__(self):
        self._bits = []
        # The place of the first bit that is kept, counted from the first bit of all.
        self._place = 0
        # The index among the bits that are kept from which the next mark is looked for.
        self._next = 0
        # The sign of the last mark, or 0 if there was none.
        self._sign = 0

    def feed(self, bits):
        """Take some bits, and return the frames whose second mark ends in them."""
        self._bits.extend(bits)
        told = []
        mark = 0
        while self._next + len(FLAG) <= len(self._bits):
            sign = _sign_at(self._bits, self._next)
            if sign == 0:
                self._next += 1
            else:
                told.extend(self._frame(mark, sign))
                mark, self._sign = self._next, sign
                self._next += len(FLAG)
        self._forget(self._next if self._sign == 0 else mark)
        return told

    def _frame(self, mark, sign):
        """Return a list with the frame from the last mark to one that was just found, if it is one."""
        begin = mark + len(FLAG)
        if sign != self._sign or begin == self._next:
            return []
        return [(self._place + mark, sign, _content(self._bits[begin:self._next], sign))]

    def _forget(self, many):
        """Forget the first bits; a test saves copying the others when there are none to forget."""
        if many > 0:
            self._bits = self._bits[many:]
            self._place += many
            self._next -= many


def _sign_at(bits, at):
    """Return the sign of the mark that begins at a place, or 0 if none does."""
    eight = tuple(bits[at:at + len(FLAG)])
    if eight == FLAG:
        return 1
    return -1 if eight == TURNED_FLAG else 0


def _content(bits, sign):
    """Return the content between two marks of a sign, or None if it cannot be unstuffed."""
    upright = bits if sign == 1 else [1 - bit for bit in bits]
    try:
        return tuple(unstuff(upright))
    except InvalidFrame:
        return None
