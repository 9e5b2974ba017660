import random
import unittest
from itertools import product

from helpers import points_of, random_box, random_point
from rangekeep.boxes import cut, distance, is_inside, middle, near_far, root, volume

TOP = 1000000


def square(p, q):
    return sum((a - b) ** 2 for a, b in zip(p, q))


def expected_root(n):
    """The greatest integer whose square is not greater, found by halving."""
    low, high = 0, n + 1
    while high - low > 1:
        at = (low + high) // 2
        if at * at <= n:
            low = at
        else:
            high = at
    return low


class RootTest(unittest.TestCase):
    def test_small_numbers(self):
        self.assertEqual([root(n) for n in range(2000)], [expected_root(n) for n in range(2000)])

    def test_squares_and_squares_less_1(self):
        for side in list(range(1, 300)) + [2 ** 20, 1999999, 2 * TOP]:
            self.assertEqual([root(side * side - 1), root(side * side), root(side * side + 1)], [side - 1, side, side])

    def test_great_numbers(self):
        rng = random.Random(12)
        for _ in range(300):
            n = rng.randint(0, 4 * 10 ** 12)
            self.assertEqual(root(n), expected_root(n))
        self.assertEqual([root(4 * 10 ** 12), root(12 * 10 ** 12)], [2 * TOP, 3464101])


class DistanceTest(unittest.TestCase):
    def test_integers_and_others(self):
        self.assertEqual(distance((0, 0, 0), (3, 4, 0)), 5)
        self.assertEqual(distance((0, 0, 0), (3, 4, 1)), 5)
        self.assertEqual(distance((0, 0, 0), (1, 1, 1)), 1)
        self.assertEqual(distance((0, 0, 0), (2, 2, 2)), 3)
        self.assertEqual(distance((5, -5, 7), (5, -5, 7)), 0)
        self.assertEqual(distance((-TOP, -TOP, -TOP), (TOP, TOP, TOP)), 3464101)

    def test_each_coordinate_and_both_orders(self):
        rng = random.Random(122)
        for _ in range(500):
            p, q = random_point(rng, 50), random_point(rng, 50)
            self.assertEqual(distance(p, q), expected_root(square(p, q)))
            self.assertEqual(distance(q, p), distance(p, q))


class VolumeTest(unittest.TestCase):
    def test_one_point_and_many(self):
        self.assertEqual(volume(((3, 3), (-2, -2), (0, 0))), 1)
        self.assertEqual(volume(((3, 4), (-2, -2), (0, 0))), 2)
        self.assertEqual(volume(((-1, 1), (-2, 2), (-3, 3))), 3 * 5 * 7)
        self.assertEqual(volume(((-TOP, TOP),) * 3), (2 * TOP + 1) ** 3)

    def test_against_the_points(self):
        rng = random.Random(1212)
        for _ in range(100):
            box = random_box(rng, 9, 4)
            self.assertEqual(volume(box), len(points_of(box)))


class InsideTest(unittest.TestCase):
    def test_each_face(self):
        box = ((-3, 4), (5, 9), (-8, -6))
        inner = (0, 7, -7)
        self.assertIs(is_inside(box, inner), True)
        for axis in range(3):
            low, high = box[axis]
            for at, inside in [(low - 1, False), (low, True), (high, True), (high + 1, False), (TOP, False)]:
                point = inner[:axis] + (at,) + inner[axis + 1:]
                self.assertIs(is_inside(box, point), inside)

    def test_against_the_points(self):
        box = ((-1, 1), (0, 0), (2, 3))
        points = points_of(box)
        for point in product(range(-3, 4), range(-2, 3), range(0, 6)):
            self.assertIs(is_inside(box, point), point in points)

    def test_a_box_with_one_point(self):
        box = ((1, 1), (2, 2), (3, 3))
        self.assertEqual([is_inside(box, (1, 2, 3)), is_inside(box, (1, 2, 4)), is_inside(box, (0, 2, 3))],
                         [True, False, False])


class NearFarTest(unittest.TestCase):
    def check(self, box, point):
        squares = [square(at, point) for at in points_of(box)]
        self.assertEqual(near_far(box, point), (expected_root(min(squares)), expected_root(max(squares))))

    def test_in_the_box_on_its_faces_and_outside_of_it(self):
        box = ((-2, 3), (5, 6), (-9, -7))
        # Along each coordinate: outside, at a face, in the box, at the other face, outside.
        for point in product((-14, -2, 0, 3, 9), (1, 5, 6, 17), (-20, -9, -8, -7, 0)):
            self.check(box, point)

    def test_boxes_with_one_point(self):
        self.assertEqual(near_far(((1, 1), (2, 2), (3, 3)), (1, 2, 3)), (0, 0))
        self.assertEqual(near_far(((1, 1), (2, 2), (3, 3)), (4, 6, 3)), (5, 5))

    def test_any_boxes(self):
        rng = random.Random(123)
        for _ in range(600):
            self.check(random_box(rng, 12, 5), random_point(rng, 20))

    def test_the_greatest_box(self):
        self.assertEqual(near_far(((-TOP, TOP),) * 3, (0, 0, 0)), (0, 1732050))
        self.assertEqual(near_far(((-TOP, TOP),) * 3, (TOP, TOP, TOP)), (0, 3464101))
        self.assertEqual(near_far(((-TOP, 1 - TOP),) * 3, (TOP, TOP, TOP)), (3464099, 3464101))


class CutTest(unittest.TestCase):
    def test_each_coordinate(self):
        box = ((-3, 4), (5, 9), (-8, -6))
        self.assertEqual(cut(box, 0, -1), (((-3, -1), (5, 9), (-8, -6)), ((0, 4), (5, 9), (-8, -6))))
        self.assertEqual(cut(box, 1, 6), (((-3, 4), (5, 6), (-8, -6)), ((-3, 4), (7, 9), (-8, -6))))
        self.assertEqual(cut(box, 2, -7), (((-3, 4), (5, 9), (-8, -7)), ((-3, 4), (5, 9), (-6, -6))))

    def test_the_least_and_the_greatest_place(self):
        box = ((-3, 4), (5, 9), (-8, -6))
        for axis in range(3):
            low, high = box[axis]
            for at in (low, high - 1):
                first, second = cut(box, axis, at)
                self.assertEqual((first[axis], second[axis]), ((low, at), (at + 1, high)))

    def test_all_points_lie_in_one_of_the_two(self):
        rng = random.Random(124)
        for _ in range(200):
            box = random_box(rng, 9, 4)
            for axis in range(3):
                low, high = box[axis]
                for at in range(low, high):
                    first, second = cut(box, axis, at)
                    self.assertEqual(sorted(points_of(first) + points_of(second)), points_of(box))
                    self.assertTrue(all(point[axis] <= at for point in points_of(first)))


class MiddleTest(unittest.TestCase):
    def test_one_point(self):
        self.assertIsNone(middle(((3, 3), (-2, -2), (0, 0))))

    def test_each_coordinate_may_be_the_longest(self):
        self.assertEqual(middle(((0, 9), (0, 8), (0, 8))), (0, 4))
        self.assertEqual(middle(((0, 8), (0, 9), (0, 8))), (1, 4))
        self.assertEqual(middle(((0, 8), (0, 8), (1, 10))), (2, 5))
        self.assertEqual(middle(((0, 0), (7, 7), (2, 3))), (2, 2))

    def test_the_first_of_several_longest(self):
        self.assertEqual(middle(((0, 4), (10, 14), (20, 24))), (0, 2))
        self.assertEqual(middle(((0, 3), (10, 14), (20, 24))), (1, 12))
        self.assertEqual(middle(((5, 6), (5, 6), (5, 6))), (0, 5))

    def test_negative_coordinates_are_rounded_down(self):
        self.assertEqual(middle(((-4, -1), (0, 0), (0, 0))), (0, -3))
        self.assertEqual(middle(((0, 0), (-2, 1), (0, 0))), (1, -1))
        self.assertEqual(middle(((0, 0), (0, 0), (-1, 0))), (2, -1))
        self.assertEqual(middle(((-TOP, TOP),) * 3), (0, 0))

    def test_each_box_with_more_points_can_be_cut_there(self):
        rng = random.Random(1241)
        for _ in range(300):
            box = random_box(rng, 9, 3)
            found = middle(box)
            self.assertEqual(found is None, volume(box) == 1)
            if found is not None:
                axis, at = found
                self.assertTrue(box[axis][0] <= at < box[axis][1])


if __name__ == "__main__":
    unittest.main()
