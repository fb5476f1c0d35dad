"""Planes: [10], [11] and [12]."""

import unittest
from fractions import Fraction
from itertools import permutations, product
from math import gcd

from solidyard.errors import NoPlane, YardError
from solidyard.planes import height, over, plane, plane_through
from solidyard.points import turn
from tests.helper import (
    GREAT, HUGE, LIMIT, crossed, dotted, is_numbers, measures, minus, point_at, signum, some_points,
)

ORIGIN = (0, 0, 0, 1)
GROUND = (0, 0, 1, 0)


class Made(unittest.TestCase):
    def test_lowest_terms_with_the_signs_kept(self):
        self.assertEqual(plane(2, 4, 6, 8), (1, 2, 3, 4))
        self.assertEqual(plane(-2, -4, -6, -8), (-1, -2, -3, -4))
        self.assertEqual(plane(-2, 4, 0, -8), (-1, 2, 0, -4))
        self.assertEqual(plane(0, 0, -5, 10), (0, 0, -1, 2))
        self.assertEqual(plane(2, 4, 6, 7), (2, 4, 6, 7))
        self.assertEqual(plane(6, 10, 15, 30), (6, 10, 15, 30))
        self.assertEqual(plane(3, 4, 8, 16), (3, 4, 8, 16))

    def test_last_nought(self):
        self.assertEqual(plane(0, 0, 3, 0), (0, 0, 1, 0))
        self.assertEqual(plane(-4, 6, 0, 0), (-2, 3, 0, 0))
        self.assertEqual(plane(0, -7, 0, 0), (0, -1, 0, 0))

    def test_one_number_is_enough(self):
        for at, number in product(range(3), (5, -5)):
            numbers = [0, 0, 0, 15]
            numbers[at] = number
            self.assertEqual(plane(*numbers), tuple(n // 5 for n in numbers))

    def test_three_noughts_are_refused(self):
        for d in (0, 1, -1, 8, HUGE):
            with self.assertRaises(NoPlane) as caught:
                plane(0, 0, 0, d)
            self.assertIsInstance(caught.exception, YardError)

    def test_all_small_ones(self):
        for numbers in product(range(-4, 5), repeat=4):
            if numbers[:3] != (0, 0, 0):
                common = gcd(*numbers)
                found = plane(*numbers)
                self.assertEqual(found, tuple(n // common for n in numbers))
                self.assertTrue(is_numbers(found, 4))

    def test_great_ones(self):
        self.assertEqual(plane(HUGE * 2, 0, -HUGE * GREAT, HUGE * 3), (2, 0, -GREAT, 3))
        self.assertEqual(plane(LIMIT, LIMIT - 1, 0, LIMIT), (LIMIT, LIMIT - 1, 0, LIMIT))


class Height(unittest.TestCase):
    def test_told_ones(self):
        self.assertEqual(height(GROUND, (5, 6, 7, 2)), 7)
        self.assertEqual(height(GROUND, (5, 6, 0, 2)), 0)
        self.assertEqual(height(GROUND, (5, 6, -7, 2)), -7)
        self.assertEqual(height((1, 2, 3, 4), (5, 6, 7, 8)), 5 + 12 + 21 + 32)
        self.assertEqual(height((1, -2, 3, -4), (5, 6, 7, 8)), 5 - 12 + 21 - 32)
        self.assertEqual(height((1, 1, 1, -1), (1, 1, 1, 3)), 0)
        self.assertEqual(height((0, 0, 1, -1), (0, 0, 1, 2)), -1)

    def test_is_the_whole_number_not_its_sign(self):
        self.assertEqual(height((2, 0, 0, 3), (5, 0, 0, 7)), 31)
        self.assertEqual(height((2, 0, 0, -3), (5, 0, 0, 7)), -11)
        self.assertIs(type(height((1, 0, 0, 0), (0, 0, 0, 1))), int)

    def test_each_number_counts(self):
        wall = (3, 5, 7, 11)
        for at in range(4):
            p = [0, 0, 0, 0]
            p[at] = 1
            self.assertEqual(height(wall, tuple(p)), wall[at])

    def test_great_ones(self):
        for great in (GREAT, HUGE, LIMIT):
            self.assertEqual(height((great, 1, 0, -great), (great, 1, 0, great)), 1)
            self.assertEqual(height((great, -1, 0, -great), (great, 1, 0, great)), -1)
            self.assertEqual(height((great, 0, 5, -great), (great, 9, 0, great)), 0)


class Over(unittest.TestCase):
    def test_told_ones(self):
        self.assertEqual(over((1, -2, 3, -4)), (-1, 2, -3, 4))
        self.assertEqual(over(GROUND), (0, 0, -1, 0))
        self.assertEqual(over((0, -1, 0, HUGE)), (0, 1, 0, -HUGE))

    def test_twice_is_the_same(self):
        for wall in ((1, -2, 3, -4), GROUND, (0, -5, 2, 1), (HUGE, 0, 0, GREAT)):
            self.assertEqual(over(over(wall)), wall)
            self.assertNotEqual(over(wall), wall)
            self.assertTrue(is_numbers(over(wall), 4))

    def test_front_and_back_change(self):
        wall = (1, -2, 3, -4)
        for p in some_points(60, 11):
            self.assertEqual(height(over(wall), p), -height(wall, p))


class Through(unittest.TestCase):
    def expected(self, p, q, r):
        upright = crossed(minus(measures(q), measures(p)), minus(measures(r), measures(p)))
        numbers = upright + (-dotted(upright, measures(p)),)
        bottom = 1
        for number in numbers:
            bottom *= number.denominator
        whole = [int(number * bottom) for number in numbers]
        return tuple(number // gcd(*whole) for number in whole)

    def test_told_ones(self):
        self.assertEqual(plane_through(ORIGIN, (1, 0, 0, 1), (0, 1, 0, 1)), GROUND)
        self.assertEqual(plane_through(ORIGIN, (0, 1, 0, 1), (1, 0, 0, 1)), over(GROUND))
        self.assertEqual(plane_through((1, 0, 0, 1), (0, 1, 0, 1), (0, 0, 1, 1)), (1, 1, 1, -1))
        self.assertEqual(plane_through((1, 0, 0, 2), (0, 1, 0, 3), (0, 0, 1, 5)), (2, 3, 5, -1))
        self.assertEqual(plane_through((0, 0, 1, 2), (7, 0, 1, 2), (0, 3, 2, 4)), (0, 0, 2, -1))

    def test_along_two_axes(self):
        ends = ((1, 0, 0, 1), (0, 1, 0, 1), (0, 0, 1, 1))
        for at in range(3):
            upright = tuple(int(k == at) for k in range(3)) + (0,)
            self.assertEqual(plane_through(ORIGIN, ends[at - 2], ends[at - 1]), upright)
            self.assertEqual(plane_through(ORIGIN, ends[at - 1], ends[at - 2]), over(upright))

    def test_all_is_kept_in_lowest_terms(self):
        points = some_points(90, 12)
        for k in range(0, 90, 3):
            p, q, r = points[k:k + 3]
            found = plane_through(p, q, r)
            self.assertEqual(found, self.expected(p, q, r))
            self.assertTrue(is_numbers(found, 4))

    def test_holds_the_three(self):
        points = some_points(60, 13)
        for k in range(0, 60, 3):
            wall = plane_through(*points[k:k + 3])
            self.assertEqual([height(wall, p) for p in points[k:k + 3]], [0, 0, 0])

    def test_front_is_where_the_turn_is_one(self):
        points = some_points(45, 14)
        for k in range(0, 45, 3):
            p, q, r = points[k:k + 3]
            wall = plane_through(p, q, r)
            for s in points:
                self.assertEqual(signum(height(wall, s)), turn(p, q, r, s))

    def test_begun_elsewhere_and_exchanged(self):
        points = some_points(45, 15)
        for k in range(0, 45, 3):
            p, q, r = points[k:k + 3]
            wall = plane_through(p, q, r)
            for other in ((q, r, p), (r, p, q)):
                self.assertEqual(plane_through(*other), wall)
            for other in ((q, p, r), (p, r, q), (r, q, p)):
                self.assertEqual(plane_through(*other), over(wall))

    def test_any_three_of_a_plane_tell_it(self):
        wall = (2, -3, 6, 5)
        held = [point_at(Fraction(x, 2), Fraction(y, 3), (Fraction(3 * y, 3) - x - 5) / 6)
                for x, y in ((0, 0), (1, 0), (0, 1), (-3, 7), (11, 4))]
        for p, q, r in permutations(held, 3):
            self.assertIn(plane_through(p, q, r), (wall, over(wall)))

    def test_points_on_a_line_are_refused(self):
        ways = ((1, 0, 0), (0, 1, 0), (0, 0, 1), (1, 1, 0), (2, -3, 5))
        for way in ways:
            line = [point_at(*(Fraction(1, 3) + t * number for number in way))
                    for t in (Fraction(0), Fraction(1), Fraction(-5, 2))]
            for three in product(line, repeat=3):
                with self.assertRaises(NoPlane):
                    plane_through(*three)

    def test_points_alike_are_refused(self):
        p, q = (1, 2, 3, 4), (0, 5, 1, 2)
        for three in ((p, p, q), (p, q, p), (q, p, p), (p, p, p)):
            with self.assertRaises(NoPlane) as caught:
                plane_through(*three)
            self.assertIsInstance(caught.exception, YardError)

    def test_great_ones(self):
        for great in (GREAT, HUGE, LIMIT):
            self.assertEqual(
                plane_through((great, 0, 0, 1), (0, great, 0, 1), (0, 0, great, 1)), (1, 1, 1, -great))
            self.assertEqual(
                plane_through((1, 0, 0, great), (0, 1, 0, great), (0, 0, 1, great)), (great, great, great, -1))
            with self.assertRaises(NoPlane):
                plane_through(ORIGIN, (great, 1, 0, 1), (great, 1, 0, great + 2))
            found = plane_through(ORIGIN, (great, 1, 0, 1), (great + 1, 1, 0, 1))
            self.assertEqual(found, (0, 0, -1, 0))
        p, q, r = (HUGE, 1, 2, GREAT), (GREAT, HUGE, 5, 7), (1, -GREAT, HUGE, 11)
        self.assertEqual(plane_through(p, q, r), self.expected(p, q, r))


class LeftHand(unittest.TestCase):
    def test_seen_from_the_front_the_third_is_on_the_left(self):
        p, q, left, right = ORIGIN, (1, 0, 0, 1), (4, 1, 0, 1), (4, -1, 0, 1)
        above, below = (0, 0, 1, 1), (0, 0, -1, 1)
        self.assertGreater(height(GROUND, above), 0)
        self.assertEqual(turn(p, q, left, above), 1)
        self.assertEqual(turn(p, q, right, above), -1)
        self.assertEqual(turn(p, q, left, below), -1)
        self.assertEqual(plane_through(p, q, left), GROUND)
        self.assertEqual(plane_through(p, q, right), over(GROUND))


if __name__ == "__main__":
    unittest.main()
