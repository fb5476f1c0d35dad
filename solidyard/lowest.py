"""Whole numbers without common divisors, and fractions."""

from solidyard.errors import BottomNought


def divisor(one, other):
    """The greatest common divisor of two whole numbers, never below 0."""
    while other != 0:
        one, other = other, one % other
    return abs(one)


def sign(number):
    """1, 0 or -1, as the number is above, at or below 0."""
    if number > 0:
        return 1
    if number < 0:
        return -1
    return 0


def lowest_terms(numbers):
    """A tuple of whole numbers, not all 0, divided by their greatest common divisor."""
    common = 0
    for number in numbers:
        common = divisor(common, number)
    return tuple([number // common for number in numbers])


def opposite(numbers):
    """A tuple of whole numbers with all signs turned."""
    return tuple([-number for number in numbers])


def lowest_over(numbers):
    """A tuple of whole numbers in lowest terms, all signs turned where the last one, not 0, is below 0."""
    terms = lowest_terms(numbers)
    return terms if terms[-1] > 0 else opposite(terms)


def fraction(top, bottom):
    """The fraction worth top divided by bottom."""
    if bottom == 0:
        raise BottomNought("nothing is divided by 0")
    return lowest_over((top, bottom))


def plus(one, other):
    """What two fractions come to."""
    return fraction(one[0] * other[1] + other[0] * one[1], one[1] * other[1])


def minus(one, other):
    """The first fraction less the second."""
    return fraction(one[0] * other[1] - other[0] * one[1], one[1] * other[1])


def times(one, other):
    """The product of two fractions."""
    return fraction(one[0] * other[0], one[1] * other[1])


def divided(one, other):
    """The first fraction divided by the second."""
    return fraction(one[0] * other[1], one[1] * other[0])


def ranked(one, other):
    """-1, 0 or 1, as the first fraction is worth less than, as much as or more than the second."""
    return sign(one[0] * other[1] - other[0] * one[1])
