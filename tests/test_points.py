"""Points, middles and turns: [8] and [9]."""

import unittest
from fractions import Fraction
from itertools import permutations, product

from solidyard.errors import LastNought, YardError
from solidyard.points import amid, point, turn
from tests.helper import (
    GREAT, HUGE, LIMIT, crossed, dotted, is_numbers, measures, minus, point_at, signum, some_points,
)

ORIGIN = (0, 0, 0, 1)
ALONG_X = (1, 0, 0, 1)
ALONG_Y = (0, 1, 0, 1)
ALONG_Z = (0, 0, 1, 1)


class Made(unittest.TestCase):
    def test_lowest_terms_of_the_four(self):
        self.assertEqual(point(2, 4, 6, 8), (1, 2, 3, 4))
        self.assertEqual(point(2, 4, 6, 7), (2, 4, 6, 7))
        self.assertEqual(point(2, 4, 5, 8), (2, 4, 5, 8))
        self.assertEqual(point(3, 4, 6, 8), (3, 4, 6, 8))
        self.assertEqual(point(6, -10, 15, 30), (6, -10, 15, 30))
        self.assertEqual(point(-9, 0, 6, 3), (-3, 0, 2, 1))
        self.assertEqual(point(5, 6, 7, 1), (5, 6, 7, 1))

    def test_last_below_nought(self):
        self.assertEqual(point(1, 2, 3, -1), (-1, -2, -3, 1))
        self.assertEqual(point(-2, 4, -6, -8), (1, -2, 3, 4))
        self.assertEqual(point(0, 0, 5, -10), (0, 0, -1, 2))

    def test_three_noughts(self):
        for last in (1, 7, -1, -12, HUGE, -HUGE):
            self.assertEqual(point(0, 0, 0, last), (0, 0, 0, 1))

    def test_last_nought_is_refused(self):
        for parts in ((0, 0, 0), (1, 2, 3), (0, 0, -1), (HUGE, 0, 0)):
            with self.assertRaises(LastNought) as caught:
                point(*parts, 0)
            self.assertIsInstance(caught.exception, YardError)

    def test_all_small_ones(self):
        for x, y, z in product(range(-3, 5), repeat=3):
            for w in (-6, -4, -1, 1, 2, 3, 4, 12):
                found = point(x, y, z, w)
                self.assertEqual(found, point_at(Fraction(x, w), Fraction(y, w), Fraction(z, w)))
                self.assertTrue(is_numbers(found, 4))

    def test_great_ones(self):
        self.assertEqual(point(HUGE * 2, HUGE * GREAT, -HUGE, -HUGE * 3), (-2, -GREAT, 1, 3))
        self.assertEqual(point(LIMIT, LIMIT - 1, 0, LIMIT), (LIMIT, LIMIT - 1, 0, LIMIT))


class Amid(unittest.TestCase):
    def check(self, p, q):
        middle = [(a + b) / 2 for a, b in zip(measures(p), measures(q))]
        found = amid(p, q)
        self.assertEqual(found, point_at(*middle), (p, q))
        self.assertEqual(amid(q, p), found)
        self.assertTrue(is_numbers(found, 4))

    def test_told_ones(self):
        self.assertEqual(amid((0, 0, 0, 1), (1, 2, 3, 1)), (1, 2, 3, 2))
        self.assertEqual(amid((0, 0, 0, 1), (2, 4, 6, 1)), (1, 2, 3, 1))
        self.assertEqual(amid((1, 0, 0, 2), (0, 1, 0, 3)), (3, 2, 0, 12))
        self.assertEqual(amid((1, 1, 1, 2), (3, 3, 3, 2)), (1, 1, 1, 1))

    def test_one_point_twice(self):
        for p in some_points(40, 1) + [(HUGE, 1, -1, GREAT), ORIGIN]:
            self.assertEqual(amid(p, p), p)

    def test_unlike_bottoms(self):
        points = some_points(30, 2)
        for p in points:
            for q in points:
                self.check(p, q)

    def test_great_ones(self):
        self.check((HUGE, 1, -GREAT, GREAT), (1, HUGE, 3, HUGE + 1))
        self.check((LIMIT, 1, 0, LIMIT - 1), (0, LIMIT, -LIMIT, LIMIT + 1))


class Turn(unittest.TestCase):
    def expected(self, p, q, r, s):
        u, v, t = (minus(measures(other), measures(p)) for other in (q, r, s))
        return signum(dotted(u, crossed(v, t)))

    def check(self, p, q, r, s):
        found = turn(p, q, r, s)
        self.assertEqual(found, self.expected(p, q, r, s), (p, q, r, s))
        self.assertIs(type(found), int)
        return found

    def test_told_ones(self):
        self.assertEqual(turn(ORIGIN, ALONG_X, ALONG_Y, ALONG_Z), 1)
        self.assertEqual(turn(ORIGIN, ALONG_Y, ALONG_X, ALONG_Z), -1)
        self.assertEqual(turn(ORIGIN, ALONG_X, ALONG_Y, (0, 0, -1, 1)), -1)
        self.assertEqual(turn(ORIGIN, ALONG_X, ALONG_Y, (5, -7, 0, 3)), 0)

    def test_each_term_counts(self):
        ways = [(1, 0, 0, 1), (0, 1, 0, 1), (0, 0, 1, 1)]
        for order in permutations(range(3)):
            p, q, r = (ways[k] for k in order)
            even = order in ((0, 1, 2), (1, 2, 0), (2, 0, 1))
            self.assertEqual(turn(ORIGIN, p, q, r), 1 if even else -1, order)

    def test_four_of_one_plane(self):
        flat = [(0, 0, 2, 1), (3, 1, 10, 5), (1, 0, 6, 3), (-7, 5, 4, 2), (9, 9, 18, 9)]
        for four in product(flat, repeat=4):
            self.assertEqual(turn(*four), 0)

    def test_four_on_a_line(self):
        line = [point_at(1 + t, 2 - 3 * t, t / 2) for t in map(Fraction, (-2, 0, Fraction(1, 3), 5))]
        for four in product(line, repeat=4):
            self.assertEqual(turn(*four), 0)

    def test_points_alike(self):
        p, q, r = (1, 2, 3, 1), (0, 1, 0, 2), (5, 5, 1, 3)
        for four in product((p, q, r), repeat=4):
            self.assertEqual(turn(*four), 0)

    def test_unlike_bottoms(self):
        points = some_points(400, 3, top=3)
        seen = {self.check(*points[k:k + 4]) for k in range(0, 400, 2) if k + 4 <= 400}
        self.assertEqual(seen, {1, 0, -1} & seen)
        self.assertTrue({1, -1} <= seen)

    def test_exchanged_and_in_turn(self):
        points = some_points(60, 4)
        for k in range(0, 60, 4):
            p, q, r, s = points[k:k + 4]
            first = self.check(p, q, r, s)
            for other in ((q, p, r, s), (p, r, q, s), (p, q, s, r), (s, q, r, p), (r, q, p, s), (p, s, r, q)):
                self.assertEqual(self.check(*other), -first)
            for other in ((q, r, p, s), (r, p, q, s), (p, r, s, q), (p, s, q, r), (q, s, r, p)):
                self.assertEqual(self.check(*other), first)

    def test_just_off_the_plane(self):
        for great in (10 ** 9, GREAT, HUGE, LIMIT):
            for small in (1, -1):
                self.assertEqual(turn(ORIGIN, ALONG_X, ALONG_Y, (1, 1, small, great)), small)
                far = (great, 0, 0, 1), (0, great, 0, 1), (0, 0, great, 1)
                near = (great, great, great * great - 2 * great + small, great)
                self.assertEqual(turn(*far, near), small)
            self.assertEqual(turn((great, 0, 0, 1), (0, great, 0, 1), (0, 0, great, 1), (1, 1, great - 2, 1)), 0)

    def test_great_ones(self):
        p, q, r, s = (HUGE, 1, 2, 3), (GREAT, HUGE, 5, 7), (1, -GREAT, HUGE, 11), (-HUGE, 4, GREAT, HUGE + 2)
        for four in permutations((p, q, r, s)):
            self.assertNotEqual(self.check(*four), 0)


if __name__ == "__main__":
    unittest.main()
