"""Divisors and fractions: [6] and [7]."""

import math
import unittest
from fractions import Fraction
from itertools import product

from solidyard.errors import BottomNought, YardError
from solidyard.lowest import divided, divisor, fraction, minus, plus, ranked, times
from tests.helper import GREAT, HUGE, LIMIT, is_numbers, signum

SMALL = sorted({Fraction(top, bottom) for top in range(-6, 7) for bottom in range(1, 7)})
ODD_SIZES = [
    Fraction(GREAT, 3), Fraction(-GREAT, GREAT + 1), Fraction(HUGE, GREAT),
    Fraction(-HUGE, HUGE + 2), Fraction(HUGE - 1, HUGE), Fraction(1, HUGE), Fraction(0), Fraction(-7, 2),
]


def pair(worth):
    return (worth.numerator, worth.denominator)


class Divisor(unittest.TestCase):
    def check(self, one, other, expected):
        for first, second in ((one, other), (other, one)):
            for signs in product((1, -1), repeat=2):
                found = divisor(first * signs[0], second * signs[1])
                self.assertEqual(found, expected, (first, second, signs))
                self.assertIs(type(found), int)

    def test_told_ones(self):
        self.check(12, 18, 6)
        self.check(35, 64, 1)
        self.check(1, 99, 1)
        self.check(17, 17, 17)

    def test_a_multiple(self):
        self.check(7, 7 * 13, 7)
        self.check(GREAT, GREAT * 30, GREAT)

    def test_a_number_and_nought(self):
        self.check(5, 0, 5)
        self.check(1, 0, 1)
        self.check(HUGE, 0, HUGE)

    def test_two_noughts(self):
        self.assertEqual(divisor(0, 0), 0)
        self.assertIs(type(divisor(0, 0)), int)

    def test_all_small_ones(self):
        for one in range(-40, 41):
            for other in range(-40, 41):
                self.assertEqual(divisor(one, other), math.gcd(one, other), (one, other))

    def test_sixty_figures(self):
        shared = 10 ** 29 + 33
        self.check(shared * (10 ** 30 + 57), shared * (10 ** 30 + 58), shared)
        self.check(2 ** 199, 6 ** 77, 2 ** 77)

    def test_hundreds_of_figures(self):
        shared = 3 ** 500
        self.check(shared * 2 ** 900, shared * 5 ** 400, shared)
        self.check(LIMIT, LIMIT - 1, 1)
        one, other = 0, 1
        for k in range(4000):
            one, other = other, one + other
        self.check(one, other, 1)
        self.check(one * 12, other * 12, 12)


class Made(unittest.TestCase):
    def test_lowest_terms(self):
        self.assertEqual(fraction(6, 4), (3, 2))
        self.assertEqual(fraction(-6, 4), (-3, 2))
        self.assertEqual(fraction(3, 2), (3, 2))
        self.assertEqual(fraction(8, 4), (2, 1))
        self.assertEqual(fraction(5, 5), (1, 1))
        self.assertEqual(fraction(4, 12), (1, 3))

    def test_bottom_below_nought(self):
        self.assertEqual(fraction(6, -4), (-3, 2))
        self.assertEqual(fraction(-6, -4), (3, 2))
        self.assertEqual(fraction(1, -1), (-1, 1))

    def test_nought_on_top(self):
        for bottom in (1, 7, -1, -7, HUGE, -HUGE):
            self.assertEqual(fraction(0, bottom), (0, 1))

    def test_bottom_nought_is_refused(self):
        for top in (0, 1, -3, HUGE):
            with self.assertRaises(BottomNought) as caught:
                fraction(top, 0)
            self.assertIsInstance(caught.exception, YardError)

    def test_all_small_ones(self):
        for top in range(-24, 25):
            for bottom in range(-24, 25):
                if bottom:
                    found = fraction(top, bottom)
                    self.assertEqual(found, pair(Fraction(top, bottom)))
                    self.assertTrue(is_numbers(found, 2))

    def test_great_ones(self):
        self.assertEqual(fraction(HUGE * GREAT, -HUGE * 3), pair(Fraction(GREAT, -3)))
        self.assertEqual(fraction(LIMIT, LIMIT - 1), (LIMIT, LIMIT - 1))
        self.assertEqual(fraction(-LIMIT, -LIMIT), (1, 1))
        self.assertEqual(fraction(2 ** 700 * 3 ** 40, 2 ** 650 * 5 ** 30), (2 ** 50 * 3 ** 40, 5 ** 30))


class Reckoned(unittest.TestCase):
    def check(self, told, by_python, one, other):
        found = told(pair(one), pair(other))
        self.assertEqual(found, pair(by_python(one, other)), (told, one, other))
        self.assertTrue(is_numbers(found, 2))

    def check_all(self, told, by_python):
        for worths in (SMALL, ODD_SIZES):
            for one in worths:
                for other in worths:
                    self.check(told, by_python, one, other)

    def test_told_ones(self):
        self.assertEqual(plus((1, 6), (1, 3)), (1, 2))
        self.assertEqual(plus((1, 2), (-1, 2)), (0, 1))
        self.assertEqual(plus((3, 4), (0, 1)), (3, 4))
        self.assertEqual(minus((1, 2), (1, 3)), (1, 6))
        self.assertEqual(minus((0, 1), (2, 3)), (-2, 3))
        self.assertEqual(minus((5, 6), (1, 3)), (1, 2))
        self.assertEqual(times((2, 3), (3, 4)), (1, 2))
        self.assertEqual(times((-2, 3), (-3, 2)), (1, 1))
        self.assertEqual(times((0, 1), (-3, 7)), (0, 1))
        self.assertEqual(divided((2, 3), (4, 3)), (1, 2))
        self.assertEqual(divided((2, 3), (-4, 9)), (-3, 2))
        self.assertEqual(divided((0, 1), (-5, 2)), (0, 1))

    def test_plus(self):
        self.check_all(plus, lambda one, other: one + other)

    def test_minus(self):
        self.check_all(minus, lambda one, other: one - other)

    def test_times(self):
        self.check_all(times, lambda one, other: one * other)

    def test_divided(self):
        for worths in (SMALL, ODD_SIZES):
            for one in worths:
                for other in worths:
                    if other:
                        self.check(divided, lambda first, second: first / second, one, other)

    def test_divided_by_nought_is_refused(self):
        for one in SMALL + ODD_SIZES:
            with self.assertRaises(BottomNought):
                divided(pair(one), (0, 1))

    def test_a_thousand_figures(self):
        one, other = Fraction(LIMIT, LIMIT - 1), Fraction(-LIMIT + 3, LIMIT + 2)
        self.check(plus, lambda first, second: first + second, one, other)
        self.check(minus, lambda first, second: first - second, one, other)
        self.check(times, lambda first, second: first * second, one, other)
        self.check(divided, lambda first, second: first / second, one, other)


class Ranked(unittest.TestCase):
    def check(self, one, other):
        found = ranked(pair(one), pair(other))
        self.assertEqual(found, signum(one - other), (one, other))
        self.assertIs(type(found), int)

    def test_told_ones(self):
        self.assertEqual(ranked((1, 3), (1, 2)), -1)
        self.assertEqual(ranked((1, 2), (1, 3)), 1)
        self.assertEqual(ranked((1, 2), (1, 2)), 0)
        self.assertEqual(ranked((-1, 2), (-1, 3)), -1)
        self.assertEqual(ranked((-1, 3), (-1, 2)), 1)
        self.assertEqual(ranked((-1, 3), (0, 1)), -1)
        self.assertEqual(ranked((0, 1), (0, 1)), 0)

    def test_worth_not_order_of_tuples(self):
        self.assertEqual(ranked((1, 1), (2, 3)), 1)
        self.assertEqual(ranked((2, 3), (1, 1)), -1)
        self.assertEqual(ranked((-2, 3), (-1, 1)), 1)

    def test_all_small_ones(self):
        for one in SMALL:
            for other in SMALL:
                self.check(one, other)

    def test_far_apart(self):
        for one in ODD_SIZES:
            for other in ODD_SIZES:
                self.check(one, other)

    def test_very_near(self):
        for great in (10 ** 9, GREAT, HUGE, LIMIT):
            below, above = Fraction(great, great + 1), Fraction(great + 1, great + 2)
            for one, other in ((below, above), (above, below), (below, below)):
                self.check(one, other)
                self.check(-one, -other)
            self.check(Fraction(great), Fraction(great + 1))
            self.check(Fraction(1, great), Fraction(1, great + 1))
            self.check(Fraction(1, great), Fraction(0))
            self.check(Fraction(-1, great), Fraction(0))


if __name__ == "__main__":
    unittest.main()
