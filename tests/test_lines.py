"""Lines: [13] and [14]."""

import unittest
from fractions import Fraction
from itertools import permutations, product
from math import gcd

from solidyard.errors import NoLine, YardError
from solidyard.lines import line_common, line_through, on_line, spot
from solidyard.planes import height, over, plane, plane_through
from tests.helper import (
    GREAT, HUGE, LIMIT, crossed, dotted, is_numbers, measures, minus, point_at, some_points,
)

ORIGIN = (0, 0, 0, 1)
WAYS = ((1, 0, 0), (0, 1, 0), (0, 0, 1), (1, 1, 0), (0, 2, -3), (3, 0, -1), (2, -3, 5), (1, 1, 1))


def whole(numbers):
    """Fractions times one number above 0, as whole numbers in lowest terms."""
    bottom = 1
    for number in numbers:
        bottom *= Fraction(number).denominator
    found = [int(number * bottom) for number in numbers]
    return tuple(number // gcd(*found) for number in found)


def expected_line(start, way):
    """The line from three measures along a way, as [13] tells it."""
    numbers = whole(tuple(way) + crossed(start, way))
    return numbers if [n for n in numbers[:3] if n][0] > 0 else tuple(-n for n in numbers)


def along(start, way, t):
    return point_at(*(a + Fraction(t) * d for a, d in zip(start, way)))


def sums_hold(line, p):
    """The three sums of [13], written out."""
    (d1, d2, d3, m1, m2, m3), (x, y, z, w) = line, p
    return y * d3 - z * d2 == w * m1 and z * d1 - x * d3 == w * m2 and x * d2 - y * d1 == w * m3


class Through(unittest.TestCase):
    def test_told_ones(self):
        self.assertEqual(line_through(ORIGIN, (1, 0, 0, 1)), (1, 0, 0, 0, 0, 0))
        self.assertEqual(line_through(ORIGIN, (1, 2, 3, 4)), (1, 2, 3, 0, 0, 0))
        self.assertEqual(line_through((0, 0, 1, 1), (1, 0, 1, 1)), (1, 0, 0, 0, 1, 0))
        self.assertEqual(line_through((0, 1, 0, 1), (1, 1, 0, 1)), (1, 0, 0, 0, 0, -1))
        self.assertEqual(line_through((1, 0, 0, 1), (1, 5, 0, 1)), (0, 1, 0, 0, 0, 1))
        self.assertEqual(line_through((1, 2, 0, 1), (1, 2, -4, 1)), (0, 0, 1, 2, -1, 0))
        self.assertEqual(line_through((1, 0, 0, 2), (0, 1, 0, 3)), (3, -2, 0, 0, 0, -1))

    def test_along_each_axis(self):
        start = (Fraction(1, 2), Fraction(-2, 3), Fraction(5))
        for way, line in (
            ((1, 0, 0), (3, 0, 0, 0, 15, 2)), ((0, 1, 0), (0, 2, 0, -10, 0, 1)), ((0, 0, 1), (0, 0, 6, -4, -3, 0)),
        ):
            for t, u in ((0, 1), (1, 0), (-7, Fraction(3, 4))):
                self.assertEqual(line_through(along(start, way, t), along(start, way, u)), line)

    def test_lowest_terms_of_the_six_only(self):
        line = line_through((0, 0, 1, 2), (4, 2, 1, 2))
        self.assertEqual(line, (4, 2, 0, -1, 2, 0))
        self.assertEqual(line_through((0, 0, 2, 1), (4, 2, 2, 1)), (2, 1, 0, -2, 4, 0))

    def test_first_number_that_is_not_nought_is_above_it(self):
        for p, q in permutations(some_points(25, 21), 2):
            if p != q:
                line = line_through(p, q)
                self.assertGreater([number for number in line[:3] if number][0], 0)
                self.assertEqual(gcd(*line), 1)
                self.assertTrue(is_numbers(line, 6))
        self.assertEqual(line_through((0, 5, 0, 1), ORIGIN), (0, 1, 0, 0, 0, 0))
        self.assertEqual(line_through((0, 3, 0, 1), (0, 0, 3, 1)), (0, 1, -1, -3, 0, 0))
        self.assertEqual(line_through((0, 0, 5, 1), ORIGIN), (0, 0, 1, 0, 0, 0))

    def test_the_sums_hold(self):
        for p, q in permutations(some_points(25, 22), 2):
            if p != q:
                line = line_through(p, q)
                self.assertEqual(line, expected_line(measures(p), minus(measures(q), measures(p))))
                self.assertTrue(sums_hold(line, p) and sums_hold(line, q))

    def test_any_two_points_of_it_either_way_round(self):
        start = (Fraction(1, 3), Fraction(-2), Fraction(7, 5))
        for way in WAYS:
            line = expected_line(start, way)
            held = [along(start, way, t) for t in (0, 1, Fraction(-7, 2), Fraction(1, 11), 400)]
            for p, q in permutations(held, 2):
                self.assertEqual(line_through(p, q), line)

    def test_great_ones(self):
        for great in (GREAT, HUGE, LIMIT):
            self.assertEqual(line_through((great, 0, 0, 1), (0, great, 0, 1)), (1, -1, 0, 0, 0, -great))
            self.assertEqual(line_through((1, 0, 0, great), (0, 1, 0, great)), (great, -great, 0, 0, 0, -1))
            p, q = (great, 1, -2, great + 1), (3, great, 5, great + 2)
            line = line_through(p, q)
            self.assertEqual(line, line_through(q, p))
            self.assertEqual(gcd(*line), 1)
            self.assertTrue(sums_hold(line, p) and sums_hold(line, q))
        p, q = (HUGE, 1, 2, GREAT), (GREAT, HUGE, 5, 7)
        self.assertEqual(line_through(p, q), expected_line(measures(p), minus(measures(q), measures(p))))

    def test_a_point_and_itself_are_refused(self):
        for p in some_points(20, 23) + [ORIGIN, (HUGE, 1, 0, GREAT)]:
            with self.assertRaises(NoLine) as caught:
                line_through(p, p)
            self.assertIsInstance(caught.exception, YardError)


class OnLine(unittest.TestCase):
    def test_near_and_far_along_it(self):
        start = (Fraction(1, 3), Fraction(-2), Fraction(7, 5))
        for way in WAYS:
            line = line_through(along(start, way, 0), along(start, way, 1))
            for t in (0, Fraction(1, GREAT), -1, Fraction(22, 7), GREAT, -HUGE):
                self.assertIs(on_line(line, along(start, way, t)), True)

    def test_right_beside_it(self):
        start = (Fraction(1, 3), Fraction(-2), Fraction(7, 5))
        for way, axis in product(WAYS, range(3)):
            line = line_through(along(start, way, 0), along(start, way, 1))
            for t, off in product((0, -1, Fraction(22, 7), GREAT), (Fraction(1, HUGE), Fraction(-1, 50), 1)):
                beside = list(measures(along(start, way, t)))
                beside[axis] += off
                straight = way[axis] != 0 and not any(way[k] for k in range(3) if k != axis)
                self.assertIs(on_line(line, point_at(*beside)), straight)

    def test_each_sum_is_asked(self):
        line = (1, 0, 0, 0, 0, 0)
        self.assertIs(on_line(line, (5, 0, 0, 3)), True)
        self.assertIs(on_line(line, (5, 1, 0, 3)), False)
        self.assertIs(on_line(line, (5, 0, 1, 3)), False)
        self.assertIs(on_line((0, 1, 0, 0, 0, 0), (1, 5, 0, 3)), False)
        self.assertIs(on_line((0, 0, 1, 0, 0, 0), (0, 1, 5, 3)), False)

    def test_all_small_ones(self):
        lines = [line_through(p, q) for p, q in zip(some_points(12, 24, 2), some_points(12, 25, 2)) if p != q]
        asked = [(x, y, z, 1) for x, y, z in product(range(-2, 3), repeat=3)] + some_points(100, 26, 2)
        for line, p in product(lines, asked):
            self.assertIs(on_line(line, p), sums_hold(line, p))

    def test_great_ones(self):
        for great in (GREAT, HUGE, LIMIT):
            line = line_through((great, 0, 0, 1), (0, great, 0, 1))
            self.assertIs(on_line(line, (1, great - 1, 0, 1)), True)
            self.assertIs(on_line(line, (1, great, 0, 1)), False)
            self.assertIs(on_line(line, (1, great - 1, 1, 1)), False)
            self.assertIs(on_line(line, (great, great * great - great, 1, great)), False)


class Common(unittest.TestCase):
    def test_told_ones(self):
        self.assertEqual(line_common((0, 0, 1, 0), (0, 1, 0, 0)), (1, 0, 0, 0, 0, 0))
        self.assertEqual(line_common((0, 0, 1, -1), (0, 1, 0, -2)), (1, 0, 0, 0, 1, -2))
        self.assertEqual(line_common((1, 0, 0, -1), (0, 1, 0, -2)), (0, 0, 1, 2, -1, 0))
        self.assertEqual(line_common((1, 0, 0, -1), (0, 0, 2, -3)), (0, 2, 0, -3, 0, 2))

    def planes(self):
        points = some_points(60, 31, 3)
        return [plane_through(*points[k:k + 3]) for k in range(0, 60, 3)]

    def test_either_way_round_and_turned_over(self):
        for one, other in permutations(self.planes(), 2):
            line = line_common(one, other)
            for asked in ((other, one), (over(one), other), (one, over(other)), (over(other), over(one))):
                self.assertEqual(line_common(*asked), line)
            if line is not None:
                self.assertTrue(is_numbers(line, 6))

    def test_is_the_line_through_two_shared_points(self):
        points = some_points(80, 32, 4)
        for k in range(0, 80, 4):
            p, q, r, s = points[k:k + 4]
            one, other = plane_through(p, q, r), plane_through(p, q, s)
            if one not in (other, over(other)):
                self.assertEqual(line_common(one, other), line_through(p, q))

    def test_planes_without_one_line(self):
        for wall in self.planes() + [(0, 0, 1, 0), (1, 0, 0, HUGE), (2, -4, 6, 1)]:
            self.assertIsNone(line_common(wall, wall))
            self.assertIsNone(line_common(wall, over(wall)))
            for away in (1, -1, GREAT):
                beside = plane(*wall[:3], wall[3] + away)
                self.assertIsNone(line_common(wall, beside))
                self.assertIsNone(line_common(beside, wall))
                self.assertIsNone(line_common(wall, over(beside)))
        self.assertIsNone(line_common((2, -4, 6, 1), (1, -2, 3, 5)))
        self.assertIsNone(line_common((-1, 2, -3, 0), (2, -4, 6, 1)))

    def test_almost_alongside(self):
        for great in (GREAT, HUGE, LIMIT):
            self.assertEqual(
                line_common((great, great + 1, 0, 0), (great + 1, great + 2, 0, 0)), (0, 0, 1, 0, 0, 0))
            line = line_common((great, 1, 0, -1), (great + 1, 1, 0, 5))
            self.assertEqual(line, (0, 0, 1, 6 * great + 1, 6, 0))


class Spot(unittest.TestCase):
    def test_told_ones(self):
        self.assertEqual(spot((1, 0, 0, 0, 0, 0), (1, 0, 0, -5)), (5, 0, 0, 1))
        self.assertEqual(spot((1, 0, 0, 0, 0, 0), (2, 1, 1, -5)), (5, 0, 0, 2))
        self.assertEqual(spot((1, 2, 3, 0, 0, 0), (1, 1, 1, -3)), (1, 2, 3, 2))
        self.assertEqual(spot((0, 0, 1, 2, -1, 0), (0, 0, -3, 2)), (3, 6, 2, 3))
        self.assertEqual(spot((1, 2, 3, 0, 0, 0), (7, -5, 4, 0)), ORIGIN)

    def test_all_is_as_reckoned(self):
        points = some_points(150, 33)
        for k in range(0, 150, 5):
            p, q = points[k:k + 2]
            wall = plane_through(*points[k + 2:k + 5])
            if p == q:
                continue
            start, way = measures(p), minus(measures(q), measures(p))
            rise = dotted(wall[:3], way)
            found = spot(line_through(p, q), wall)
            if rise == 0:
                self.assertIsNone(found)
            else:
                t = -(dotted(wall[:3], start) + wall[3]) / rise
                self.assertEqual(found, along(start, way, t))
                self.assertEqual(height(wall, found), 0)
                self.assertTrue(is_numbers(found, 4))
            self.assertEqual(spot(line_through(p, q), over(wall)), found)

    def test_line_in_the_plane_or_alongside(self):
        points = some_points(60, 34)
        for k in range(0, 60, 3):
            p, q, r = points[k:k + 3]
            wall = plane_through(p, q, r)
            for one, other in ((p, q), (q, r), (r, p)):
                line = line_through(one, other)
                self.assertIsNone(spot(line, wall))
                self.assertIsNone(spot(line, over(wall)))
                for away in (1, -3, GREAT):
                    self.assertIsNone(spot(line, plane(*wall[:3], wall[3] + away)))
                    self.assertIsNone(spot(line, over(plane(*wall[:3], wall[3] + away))))

    def test_great_ones(self):
        for great in (GREAT, HUGE, LIMIT):
            line = line_through((great, 0, 0, 1), (0, great, 0, 1))
            self.assertEqual(spot(line, (1, 0, 0, -1)), (1, great - 1, 0, 1))
            self.assertEqual(spot(line, (-great, 0, 0, 1)), (1, great * great - 1, 0, great))
            self.assertEqual(spot(line, (great, great + 1, 0, 0)), (great * (great + 1), -great * great, 0, 1))
            self.assertIsNone(spot(line, (great, great, 1, 0)))


if __name__ == "__main__":
    unittest.main()
