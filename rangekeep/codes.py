"""Spread codes: maximal codes, their families, and their correlations."""

from rangekeep.errors import InvalidCode
from rangekeep.registers import is_maximal, sequence

FAMILY_SIZES = (3, 5, 6, 7)


def maximal_code(taps):
    """Return the maximal code of maximal taps of a size from 3 to 7."""
    size = taps[-1]
    if size < 3 or size > 7 or not is_maximal(taps):
        raise InvalidCode(size)
    bits = sequence(taps, (1,) * size, (1 << size) - 1)
    return tuple([1 - 2 * bit for bit in bits])


def even(a, b, k):
    """Return the even correlation at the shift k."""
    ahead, behind = _parts(a, b, k)
    return ahead + behind


def odd(a, b, k):
    """Return the odd correlation at the shift k."""
    ahead, behind = _parts(a, b, k)
    return ahead - behind


def _parts(a, b, k):
    """Return the sum of the products up to the end of b, and that behind it."""
    wrap = len(a) - k
    return sum_of_products(a[:wrap], b[k:]), sum_of_products(a[wrap:], b[:k])


def sum_of_products(xs, ys):
    """Return the sum of the products of two rows, as far as the shorter one goes."""
    return sum([x * y for x, y in zip(xs, ys)])


def decimated(code, q):
    """Return the code that takes each q-th chip, around and around."""
    return tuple([code[(q * i) % len(code)] for i in range(len(code))])


def family(taps):
    """Return the codes of the family of the maximal code of the taps."""
    size = taps[-1]
    if size not in FAMILY_SIZES:
        raise InvalidCode(size)
    u = maximal_code(taps)
    v = decimated(u, 5 if size == 6 else 3)
    return [u, v] + [_product_code(u, v[k:] + v[:k]) for k in range(len(u))]


def _product_code(a, b):
    return tuple([x * y for x, y in zip(a, b)])


def bound(n):
    """Return the bound of the correlations in a family of the size n."""
    # For an odd n, (n + 1) // 2 is (n + 2) // 2.
    return (1 << ((n + 2) // 2)) + 1
