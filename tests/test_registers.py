import itertools
import unittest

from rangekeep.registers import complexity, connection, is_maximal, maximal_taps, period, sequence, step


def all_states(n):
    return list(itertools.product((0, 1), repeat=n))


def all_taps(n):
    rows = [taps + (n,) for many in range(n) for taps in itertools.combinations(range(1, n), many)]
    return sorted(rows)


def rows_that_fit(bits, m):
    """All rows c_1 to c_m of point 01.3, found by trying each one."""
    return [row for row in itertools.product((0, 1), repeat=m)
            if all(bits[i] == sum(row[k - 1] * bits[i - k] for k in range(1, m + 1)) % 2
                   for i in range(m, len(bits)))]


class StepTest(unittest.TestCase):
    def test_size_2(self):
        self.assertEqual(step((1, 2), (0, 1)), (1, (1, 0)))
        self.assertEqual(step((1, 2), (1, 1)), (1, (0, 1)))
        self.assertEqual(step((2,), (1, 0)), (0, (0, 1)))

    def test_size_5(self):
        self.assertEqual(step((2, 5), (0, 1, 1, 0, 0)), (0, (1, 0, 1, 1, 0)))
        self.assertEqual(step((2, 5), (0, 1, 1, 0, 1)), (1, (0, 0, 1, 1, 0)))
        self.assertEqual(step((1, 2, 3, 5), (1, 1, 1, 1, 0)), (0, (1, 1, 1, 1, 1)))

    def test_size_8(self):
        self.assertEqual(step((4, 5, 6, 8), (1, 0, 0, 1, 0, 0, 0, 1)), (1, (0, 1, 0, 0, 1, 0, 0, 0)))
        self.assertEqual(step((1, 8), (1, 0, 0, 1, 0, 0, 0, 0)), (0, (1, 1, 0, 0, 1, 0, 0, 0)))

    def test_what_was_passed_is_as_before(self):
        taps, state = (2, 3), (1, 0, 0)
        step(taps, state)
        sequence(taps, state, 5)
        period(taps, state)
        self.assertEqual((taps, state), ((2, 3), (1, 0, 0)))


class SequenceTest(unittest.TestCase):
    def test_count_0(self):
        self.assertEqual(sequence((2, 3), (1, 0, 0), 0), [])

    def test_the_bits_of_the_steps(self):
        for taps, state in [((1, 2), (1, 0)), ((2, 5), (1, 0, 1, 1, 0)), ((4, 5, 6, 8), (1, 1, 0, 1, 0, 0, 1, 0))]:
            given, now = [], state
            for _ in range(40):
                bit, now = step(taps, now)
                given.append(bit)
            self.assertEqual(sequence(taps, state, 40), given)

    def test_longer_than_the_period(self):
        self.assertEqual(sequence((1, 2), (1, 1), 8), [1, 1, 0, 1, 1, 0, 1, 1])
        bits = sequence((2, 5), (1, 1, 1, 1, 1), 93)
        self.assertEqual(bits[:31] * 3, bits)

    def test_each_bit_is_the_sum_of_those_before(self):
        bits = sequence((1, 3, 4, 6), (0, 1, 0, 0, 1, 1), 70)
        for i in range(6, 70):
            self.assertEqual(bits[i], (bits[i - 1] + bits[i - 3] + bits[i - 4] + bits[i - 6]) % 2)


class PeriodTest(unittest.TestCase):
    def test_the_state_that_is_all_0(self):
        for taps in [(1, 2), (2,), (2, 5), (5,), (4, 5, 6, 8)]:
            self.assertEqual(period(taps, (0,) * taps[-1]), 1)

    def test_maximal_taps(self):
        for taps in [(1, 2), (2, 3), (1, 4), (2, 5), (4, 5, 6, 8)]:
            n = taps[-1]
            for state in all_states(n)[1:]:
                self.assertEqual(period(taps, state), 2 ** n - 1)

    def test_taps_that_are_not_maximal(self):
        self.assertEqual(period((3,), (1, 0, 0)), 3)
        self.assertEqual(period((3,), (1, 1, 1)), 1)
        self.assertEqual(period((4,), (1, 0, 1, 0)), 2)
        self.assertEqual(period((1, 2, 3, 4), (1, 0, 0, 0)), 5)
        self.assertEqual(period((2, 4), (1, 0, 0, 0)), 6)

    def test_it_is_the_least_way_back(self):
        for taps in all_taps(4):
            for state in all_states(4):
                now, many = step(taps, state)[1], 1
                while now != state:
                    now, many = step(taps, now)[1], many + 1
                self.assertEqual(period(taps, state), many)


class MaximalTest(unittest.TestCase):
    def test_is_maximal(self):
        for taps in [(1, 2), (1, 3), (2, 3), (3, 4), (3, 5), (5, 6), (1, 7), (4, 5, 6, 8)]:
            self.assertIs(is_maximal(taps), True)
        for taps in [(2,), (3,), (1, 2, 3), (2, 4), (1, 2, 3, 4), (1, 5), (3, 6), (1, 8), (8,)]:
            self.assertIs(is_maximal(taps), False)

    def test_the_first_sizes(self):
        self.assertEqual(maximal_taps(2), [(1, 2)])
        self.assertEqual(maximal_taps(3), [(1, 3), (2, 3)])
        self.assertEqual(maximal_taps(4), [(1, 4), (3, 4)])
        self.assertEqual(maximal_taps(5), [(1, 2, 3, 5), (1, 2, 4, 5), (1, 3, 4, 5), (2, 3, 4, 5), (2, 5), (3, 5)])
        self.assertEqual(maximal_taps(6), [(1, 2, 5, 6), (1, 3, 4, 6), (1, 4, 5, 6), (1, 6), (2, 3, 5, 6), (5, 6)])

    def test_each_size(self):
        for n, many in [(2, 1), (3, 2), (4, 2), (5, 6), (6, 6), (7, 18)]:
            state = (0,) * (n - 1) + (1,)
            expected = [taps for taps in all_taps(n) if period(taps, state) == 2 ** n - 1]
            self.assertEqual(maximal_taps(n), expected)
            self.assertEqual(len(expected), many)

    def test_the_list_is_new(self):
        maximal_taps(3).append(None)
        self.assertEqual(maximal_taps(3), [(1, 3), (2, 3)])


class ComplexityTest(unittest.TestCase):
    def test_no_bits(self):
        self.assertEqual(complexity([]), 0)
        self.assertEqual(connection([]), ())

    def test_bits_that_are_all_0(self):
        for many in (1, 2, 9):
            self.assertEqual(complexity([0] * many), 0)
            self.assertEqual(connection([0] * many), ())

    def test_only_the_last_bit(self):
        for many in (1, 2, 3, 8):
            bits = [0] * (many - 1) + [1]
            self.assertEqual(complexity(bits), many)
            self.assertIsNone(connection(bits))

    def test_all_short_lists(self):
        for many in range(9):
            for bits in all_states(many):
                bits = list(bits)
                m = next(m for m in range(many + 1) if rows_that_fit(bits, m))
                self.assertEqual(complexity(bits), m)
                if 2 * m > many:
                    self.assertIsNone(connection(bits))
                else:
                    self.assertEqual([connection(bits)], rows_that_fit(bits, m))

    def test_bits_of_a_register(self):
        for taps in [(1, 2), (2, 3), (3, 4), (2, 5), (1, 6), (1, 7), (4, 5, 6, 8)]:
            n = taps[-1]
            row = tuple([1 if k in taps else 0 for k in range(1, n + 1)])
            bits = sequence(taps, (1,) * n, 5 * n)
            self.assertEqual(complexity(bits), n)
            self.assertEqual(connection(bits), row)

    def test_twice_the_complexity_is_just_the_number_of_the_bits(self):
        bits = sequence((1, 4), (1, 0, 0, 0), 8)
        self.assertEqual(complexity(bits), 4)
        self.assertEqual(connection(bits), (1, 0, 0, 1))
        self.assertEqual((complexity([0, 1]), connection([0, 1])), (2, None))
        self.assertEqual((complexity([1, 1]), connection([1, 1])), (1, (1,)))
        self.assertEqual((complexity([1, 0]), connection([1, 0])), (1, (0,)))

    def test_twice_the_complexity_is_greater_by_one(self):
        bits = sequence((1, 4), (1, 0, 0, 0), 7)
        self.assertEqual(complexity(bits), 4)
        self.assertIsNone(connection(bits))
        self.assertEqual((complexity([1]), connection([1])), (1, None))

    def test_bits_of_a_register_with_one_bit_turned(self):
        for place in (0, 7, 15, 19):
            bits = sequence((2, 5), (1, 1, 1, 1, 1), 20)
            bits[place] = 1 - bits[place]
            before = list(bits)
            m = complexity(bits)
            self.assertGreater(m, 5)
            self.assertTrue(rows_that_fit(bits, m))
            self.assertFalse(rows_that_fit(bits, m - 1))
            row = connection(bits)
            if 2 * m > 20:
                self.assertIsNone(row)
            else:
                self.assertEqual([row], rows_that_fit(bits, m))
            self.assertEqual(bits, before)


if __name__ == "__main__":
    unittest.main()
