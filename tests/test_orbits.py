import random
import unittest
from fractions import Fraction
from itertools import product
from math import floor

from helpers import random_point
from rangekeep.errors import InvalidOrbit
from rangekeep.orbits import Orbit, is_above, is_seen, position

TOP = 1000000
PARTS = 2 ** 20


def expected_position(orbit, t):
    """Point 09.2, with exact quotients."""
    d = t - orbit.begin
    told = []
    for k in range(3):
        part = Fraction(orbit.speed[k] * d, PARTS) + Fraction(orbit.pull[k], PARTS) * Fraction(d * (d - 1), 2)
        told.append(orbit.place[k] + floor(part))
    return tuple(told)


def scalar(p, q):
    return sum(a * b for a, b in zip(p, q))


def minus(p, q):
    return tuple(a - b for a, b in zip(p, q))


def nearest_square(p, q):
    """The square of the least distance to the origin on the line from p to q, exactly."""
    d = minus(q, p)
    length = scalar(d, d)
    part = Fraction(0) if length == 0 else min(max(Fraction(-scalar(p, d), length), 0), 1)
    at = tuple(a + part * b for a, b in zip(p, d))
    return scalar(at, at)


def expected_above(mask, p, q):
    """Point 09.4, with the squares of the height and of the ground."""
    d = minus(q, p)
    height = Fraction(scalar(p, d) ** 2, scalar(p, p))
    ground = scalar(d, d) - height
    return scalar(p, d) >= 0 and height * mask[1] ** 2 >= mask[0] ** 2 * ground


class OrbitTest(unittest.TestCase):
    def make(self, **changed):
        told = {"begin": 3, "end": 9, "place": (1, 2, 3), "speed": (4, 5, 6), "pull": (7, 8, 9)}
        told.update(changed)
        return Orbit(**told)

    def test_the_attributes(self):
        orbit = Orbit(3, 9, (1, 2, 3), (4, 5, 6), (7, 8, 9))
        self.assertEqual((orbit.begin, orbit.end), (3, 9))
        self.assertEqual((orbit.place, orbit.speed, orbit.pull), ((1, 2, 3), (4, 5, 6), (7, 8, 9)))

    def test_equal_attributes(self):
        self.assertTrue(self.make() == self.make())
        self.assertFalse(self.make() != self.make())

    def test_one_attribute_that_differs(self):
        for name, other in [("begin", 2), ("end", 10), ("place", (1, 2, 4)), ("speed", (4, 0, 6)),
                            ("pull", (-7, 8, 9))]:
            with self.subTest(name):
                self.assertFalse(self.make() == self.make(**{name: other}))
                self.assertTrue(self.make() != self.make(**{name: other}))

    def test_values_of_another_kind(self):
        for other in [None, 3, (3, 9, (1, 2, 3), (4, 5, 6), (7, 8, 9)), "x", [], object()]:
            self.assertFalse(self.make() == other)
            self.assertFalse(other == self.make())
            self.assertTrue(self.make() != other)


class PositionTest(unittest.TestCase):
    def check_error(self, orbit, t):
        with self.assertRaises(InvalidOrbit) as caught:
            position(orbit, t)
        self.assertEqual(caught.exception.place, t)

    def test_against_exact_quotients(self):
        rng = random.Random(9)
        for _ in range(300):
            begin = rng.randint(-5000, 5000)
            end = begin + rng.choice((0, 1, rng.randint(2, 4000)))
            orbit = Orbit(begin, end, random_point(rng, 3000), random_point(rng, rng.choice((3, 2 ** 22))),
                          random_point(rng, rng.choice((0, 2, 4000))))
            for t in (begin, end, (begin + end) // 2, rng.randint(begin, end), min(begin + 1, end)):
                self.assertEqual(position(orbit, t), expected_position(orbit, t))

    def test_places_speeds_and_pulls_of_both_signs(self):
        orbit = Orbit(10, 20, (5, -5, 0), (1, -1, 0), (0, 0, -1))
        self.assertEqual(position(orbit, 10), (5, -5, 0))
        self.assertEqual(position(orbit, 11), (5, -6, 0))
        self.assertEqual(position(orbit, 12), (5, -6, -1))

    def test_one_sum_is_rounded(self):
        # Each of the two products alone would be rounded down to 0.
        half = PARTS // 2
        self.assertEqual(position(Orbit(0, 9, (0, 0, 0), (half, half, half - 1), (0, -half, 0)), 1), (0, 0, 0))
        self.assertEqual(position(Orbit(0, 9, (0, 0, 0), (half // 2, 0, 0), (half, 0, 0)), 2), (1, 0, 0))

    def test_the_pull_begins_with_the_second_step(self):
        orbit = Orbit(0, 9, (0, 0, 0), (0, 0, 0), (PARTS, 0, -PARTS))
        self.assertEqual([position(orbit, t) for t in range(5)],
                         [(0, 0, 0), (0, 0, 0), (1, 0, -1), (3, 0, -3), (6, 0, -6)])

    def test_outside_of_the_times(self):
        orbit = Orbit(-4, 6, (1, 1, 1), (0, 0, 0), (0, 0, 0))
        for t in (-1000, -5, 7, 9999):
            self.check_error(orbit, t)
        self.assertEqual([position(orbit, -4), position(orbit, 6)], [(1, 1, 1)] * 2)
        one = Orbit(3, 3, (1, 2, 3), (PARTS, 0, 0), (0, 0, 0))
        self.assertEqual(position(one, 3), (1, 2, 3))
        self.check_error(one, 2)
        self.check_error(one, 4)

    def test_coordinates_at_the_bounds_and_just_outside(self):
        for axis in range(3):
            for sign in (1, -1):
                place = [0, 0, 0]
                place[axis] = sign * (TOP - 5)
                speed = [0, 0, 0]
                speed[axis] = sign * PARTS
                orbit = Orbit(100, 200, tuple(place), tuple(speed), (0, 0, 0))
                with self.subTest(axis=axis, sign=sign):
                    self.assertEqual(position(orbit, 105)[axis], sign * TOP)
                    self.check_error(orbit, 106)

    def test_a_coordinate_that_comes_back(self):
        orbit = Orbit(0, 9, (TOP, 0, 0), (2 * PARTS, 0, 0), (-2 * PARTS, 0, 0))
        self.assertEqual(position(orbit, 0), (TOP, 0, 0))
        self.check_error(orbit, 1)
        self.check_error(orbit, 2)
        self.assertEqual(position(orbit, 3), (TOP, 0, 0))

    def test_the_orbit_is_as_before(self):
        orbit = Orbit(0, 9, (1, 2, 3), (PARTS, 0, 0), (1, 1, 1))
        position(orbit, 5)
        self.assertEqual(orbit, Orbit(0, 9, (1, 2, 3), (PARTS, 0, 0), (1, 1, 1)))


class SeenTest(unittest.TestCase):
    def check(self, radius, p, q, seen):
        self.assertIs(is_seen(radius, p, q), seen)
        self.assertIs(is_seen(radius, q, p), seen)
        self.assertEqual(nearest_square(p, q) >= radius ** 2, seen)

    def test_over_through_and_along_the_planet(self):
        self.check(5, (-9, 6, 0), (9, 6, 0), True)
        self.check(5, (-9, 5, 0), (9, 5, 0), True)
        self.check(5, (-9, 4, 0), (9, 4, 0), False)
        self.check(5, (-9, 4, 0), (9, 5, 0), False)
        self.check(5, (-9, 0, 0), (9, 0, 0), False)
        self.check(5, (0, -3, -12), (0, -4, 9), False)
        # The line from (15, 0, 0) in the direction of (-4, 3, 0) touches the ball with the radius 9.
        self.check(9, (15, 0, 0), (-5, 15, 0), True)
        self.check(9, (15, 0, 0), (-6, 15, 0), False)

    def test_the_nearest_point_is_one_of_the_two(self):
        self.check(5, (5, 0, 0), (9, 1, 0), True)
        self.check(5, (4, 0, 0), (9, 1, 0), False)
        self.check(5, (3, 4, 0), (6, 8, 0), True)
        self.check(5, (3, 3, 0), (6, 6, 0), False)
        # The line meets the planet only behind the nearer point.
        self.check(5, (7, 0, 0), (20, 0, 0), True)

    def test_the_line_is_square_to_one_of_the_points(self):
        self.check(5, (0, 5, 0), (7, 5, 0), True)
        self.check(6, (0, 5, 0), (7, 5, 0), False)
        self.check(5, (0, 5, 0), (-7, 5, 3), True)

    def test_both_points_in_the_planet(self):
        self.check(5, (1, 0, 0), (0, 1, 0), False)
        self.check(5, (-1, 0, 0), (1, 1, 0), False)

    def test_the_radius_0(self):
        self.check(0, (-3, -3, 1), (3, 3, -1), True)
        self.check(0, (0, 0, 0), (3, 3, -1), True)
        self.check(0, (0, 0, 0), (0, 0, 0), True)

    def test_equal_points(self):
        self.check(5, (3, 4, 0), (3, 4, 0), True)
        self.check(5, (3, 3, 0), (3, 3, 0), False)
        self.check(1, (0, 0, 0), (0, 0, 0), False)

    def test_the_greatest_coordinates(self):
        self.check(TOP, (-TOP, TOP, 0), (TOP, TOP, 0), True)
        self.check(TOP, (-TOP, TOP, 0), (TOP, TOP - 1, 0), False)

    def test_all_pairs_of_small_points(self):
        small = list(product((-1, 0, 1), repeat=3))
        for p, q in product(small, small):
            nearest = nearest_square(p, q)
            for radius in (0, 1, 2):
                self.assertIs(is_seen(radius, p, q), nearest >= radius ** 2)

    def test_against_the_nearest_point(self):
        rng = random.Random(93)
        found = set()
        for _ in range(4000):
            p, q = random_point(rng, 6), random_point(rng, 6)
            radius = rng.randint(0, 6)
            seen = is_seen(radius, p, q)
            self.assertIs(seen, nearest_square(p, q) >= radius ** 2)
            found.add(seen)
        self.assertEqual(found, {True, False})

    def test_a_point_between_two_others(self):
        rng = random.Random(95)
        for _ in range(2000):
            p, step = random_point(rng, 9), random_point(rng, 3)
            many, part = rng.randint(1, 7), rng.randint(0, 7)
            between = tuple(a + min(part, many) * b for a, b in zip(p, step))
            q = tuple(a + many * b for a, b in zip(p, step))
            radius = rng.randint(0, 9)
            self.assertEqual(is_seen(radius, p, q), is_seen(radius, between, p) and is_seen(radius, between, q))


class AboveTest(unittest.TestCase):
    def check(self, mask, p, q, above):
        self.assertIs(is_above(mask, p, q), above)
        self.assertEqual(expected_above(mask, p, q), above)

    def test_just_at_the_mask_and_just_below_it(self):
        self.check((1, 1), (3, 0, 0), (5, 2, 0), True)
        self.check((1, 1), (3, 0, 0), (5, 3, 0), False)
        self.check((3, 4), (0, 0, 7), (8, 0, 13), True)
        self.check((3, 4), (0, 0, 7), (8, 1, 13), False)
        self.check((3, 4), (0, 0, 7), (8, 0, 12), False)
        self.check((5, 1), (0, -2, 0), (0, -7, 1), True)
        self.check((6, 1), (0, -2, 0), (0, -7, 1), False)

    def test_the_mask_that_hides_only_what_is_below_the_ground(self):
        self.check((0, 1), (3, 0, 0), (3, 9, 9), True)
        self.check((0, 1), (3, 0, 0), (4, 9, 9), True)
        self.check((0, 1), (3, 0, 0), (2, 9, 9), False)
        self.check((0, 1), (3, 0, 0), (2, 0, 0), False)

    def test_a_point_at_itself(self):
        for mask in ((0, 1), (1, 1), (1000, 1)):
            self.check(mask, (3, -4, 5), (3, -4, 5), True)

    def test_a_point_straight_above_and_straight_below(self):
        for mask in ((0, 1), (1, 1), (1000, 1)):
            self.check(mask, (1, 2, -3), (2, 4, -6), True)
            self.check(mask, (2, 4, -6), (1, 2, -3), False)
            self.check(mask, (2, 4, -6), (-2, -4, 6), False)

    def test_a_height_below_the_ground_does_not_count_by_its_square(self):
        self.check((1, 1), (3, 0, 0), (-9, 1, 0), False)

    def test_against_the_ratio(self):
        rng = random.Random(94)
        found = set()
        for _ in range(4000):
            p, q = random_point(rng, 5), random_point(rng, 9)
            if p != (0, 0, 0):
                mask = (rng.randint(0, 4), rng.randint(1, 4))
                above = is_above(mask, p, q)
                self.assertIs(above, expected_above(mask, p, q))
                found.add(above)
        self.assertEqual(found, {True, False})

    def test_lower_masks(self):
        rng = random.Random(951)
        for _ in range(3000):
            p, q = random_point(rng, 5), random_point(rng, 9)
            up, across = rng.randint(0, 4), rng.randint(1, 4)
            if p != (0, 0, 0) and is_above((up, across), p, q):
                self.assertTrue(is_above((rng.randint(0, up), across + rng.randint(0, 3)), p, q))

    def test_what_stands_above_a_mask_is_seen(self):
        rng = random.Random(952)
        many = 0
        for _ in range(3000):
            p, q = random_point(rng, 6), random_point(rng, 9)
            radius = rng.randint(0, 8)
            if p != (0, 0, 0) and scalar(p, p) >= radius ** 2 and is_above((rng.randint(0, 2), 1), p, q):
                self.assertTrue(is_seen(radius, p, q))
                many += 1
        self.assertGreater(many, 100)


if __name__ == "__main__":
    unittest.main()
