import unittest

from rangekeep.codes import bound, decimated, even, family, maximal_code, odd
from rangekeep.errors import InvalidCode
from rangekeep.registers import maximal_taps, sequence

FAMILY_SIZES = (3, 5, 6, 7)


def parts(a, b, k):
    """A and B of point 02.2, product by product."""
    size = len(a)
    ahead = sum(a[i] * b[i + k] for i in range(size) if i + k < size)
    behind = sum(a[i] * b[i + k - size] for i in range(size) if i + k >= size)
    return ahead, behind


class MaximalCodeTest(unittest.TestCase):
    def test_the_chips_are_the_bits(self):
        for n in (3, 4, 5, 6, 7):
            for taps in maximal_taps(n):
                bits = sequence(taps, (1,) * n, 2 ** n - 1)
                code = maximal_code(taps)
                self.assertEqual(code, tuple([-1 if bit else 1 for bit in bits]))
                self.assertIsInstance(code, tuple)

    def test_some_codes(self):
        self.assertEqual(maximal_code((1, 3)), (-1, -1, -1, 1, -1, 1, 1))
        self.assertEqual(maximal_code((1, 4)), (-1, -1, -1, -1, 1, -1, 1, -1, -1, 1, 1, -1, 1, 1, 1))

    def test_its_even_correlations_with_itself(self):
        for n in (3, 4, 5, 6, 7):
            code = maximal_code(maximal_taps(n)[0])
            self.assertEqual([even(code, code, k) for k in range(len(code))], [len(code)] + [-1] * (len(code) - 1))

    def test_taps_that_are_not_maximal(self):
        for taps in [(3,), (1, 2, 3), (2, 4), (1, 5), (3, 6), (7,)]:
            with self.assertRaises(InvalidCode) as caught:
                maximal_code(taps)
            self.assertEqual(caught.exception.place, taps[-1])

    def test_sizes_that_have_no_code(self):
        for taps in [(1, 2), (2,), (4, 5, 6, 8), (8,)]:
            with self.assertRaises(InvalidCode) as caught:
                maximal_code(taps)
            self.assertEqual(caught.exception.place, taps[-1])


class CorrelationsTest(unittest.TestCase):
    def test_each_shift_of_equal_and_of_different_codes(self):
        pairs = [(maximal_code((2, 3)), maximal_code((1, 3))), (maximal_code((2, 5)), maximal_code((1, 2, 3, 5)))]
        for a, b in pairs:
            for x, y in [(a, a), (a, b), (b, a)]:
                for k in range(len(a)):
                    ahead, behind = parts(x, y, k)
                    self.assertEqual((even(x, y, k), odd(x, y, k)), (ahead + behind, ahead - behind))

    def test_the_first_and_the_last_shift(self):
        a, b = maximal_code((2, 3)), maximal_code((1, 3))
        self.assertEqual([(even(a, a, k), odd(a, a, k)) for k in (0, 6)], [(7, 7), (-1, -1)])
        self.assertEqual([(even(a, b, k), odd(a, b, k)) for k in (0, 6)], [(3, 3), (3, -5)])

    def test_the_order_of_the_codes_counts(self):
        a, b = maximal_code((2, 3)), maximal_code((1, 3))
        self.assertNotEqual([even(a, b, k) for k in range(7)], [even(b, a, k) for k in range(7)])
        self.assertEqual(even(a, b, 2), even(b, a, 5))
        self.assertEqual(odd(a, b, 2), -odd(b, a, 5))


class DecimatedTest(unittest.TestCase):
    def test_by_1(self):
        code = maximal_code((2, 5))
        self.assertEqual(decimated(code, 1), code)

    def test_by_3_by_5_and_by_more_than_the_length(self):
        code = maximal_code((2, 3))
        self.assertEqual(decimated(code, 3), (-1, 1, 1, -1, -1, -1, 1))
        for n in (3, 4, 5, 6, 7):
            code = maximal_code(maximal_taps(n)[-1])
            size = len(code)
            for q in (2, 3, 5, size - 1, size, size + 1, size + 3, 3 * size + 2):
                self.assertEqual(decimated(code, q), tuple([code[(q * i) % size] for i in range(size)]))
        self.assertEqual(decimated(code, size + 3), decimated(code, 3))
        self.assertEqual(decimated(code, size), (code[0],) * size)


class FamilyTest(unittest.TestCase):
    def test_the_number_and_the_order(self):
        for n in FAMILY_SIZES:
            for taps in maximal_taps(n)[:2]:
                u = maximal_code(taps)
                v = decimated(u, 5 if n == 6 else 3)
                size = len(u)
                told = family(taps)
                self.assertIsInstance(told, list)
                self.assertEqual(len(told), size + 2)
                self.assertEqual(told[:2], [u, v])
                for k in range(size):
                    self.assertEqual(told[2 + k], tuple([u[i] * v[(i + k) % size] for i in range(size)]))

    def test_the_codes_of_a_family_are_different(self):
        for n in FAMILY_SIZES:
            told = family(maximal_taps(n)[0])
            self.assertEqual(len(set(told)), len(told))

    def test_taps_that_have_no_family(self):
        for taps in [(1, 4), (3, 4), (1, 2), (4, 5, 6, 8), (3,), (1, 5), (3, 6), (7,)]:
            with self.assertRaises(InvalidCode) as caught:
                family(taps)
            self.assertEqual(caught.exception.place, taps[-1])


class BoundTest(unittest.TestCase):
    def test_each_size(self):
        self.assertEqual([bound(n) for n in FAMILY_SIZES], [5, 9, 17, 17])

    def check_values(self, codes, t):
        found = set()
        for i, a in enumerate(codes):
            for j, b in enumerate(codes):
                found.update([even(a, b, k) for k in range(len(a)) if k > 0 or i != j])
        self.assertEqual(found, {-1, -t, t - 2})

    def test_the_even_correlations_have_three_values(self):
        for n in (3, 5):
            for taps in maximal_taps(n)[:2]:
                self.check_values(family(taps), bound(n))
        self.check_values(family((1, 6))[::8], bound(6))
        self.check_values(family((1, 7))[::16], bound(7))


if __name__ == "__main__":
    unittest.main()
