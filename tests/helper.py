"""What several tests need: ways to look at answers, and points to ask about.

Expected values are reckoned with Python's own Fraction, never with the program.
"""

import random
from fractions import Fraction
from math import gcd

GREAT = 10 ** 60 + 7
HUGE = 10 ** 400 + 69
LIMIT = 10 ** 999 + 7  # a thousand figures, the most that DOC.md [3] promises


def is_plain(answer):
    """True where an answer is built as [2] says; True and False stand only for themselves."""
    if type(answer) is tuple:
        return all(is_plain(part) for part in answer)
    return type(answer) in (int, str, bool) or answer is None


def is_numbers(answer, many):
    """True where an answer is a tuple of so many whole numbers, none of them True or False."""
    return type(answer) is tuple and len(answer) == many and all(type(n) is int for n in answer)


def measures(p):
    """The three measures of a point."""
    return tuple(Fraction(n, p[3]) for n in p[:3])


def point_at(x, y, z):
    """The point of three measures, in its one form."""
    parts = [Fraction(n) for n in (x, y, z)]
    bottom = 1
    for part in parts:
        bottom = bottom * part.denominator // gcd(bottom, part.denominator)
    return tuple(int(part * bottom) for part in parts) + (bottom,)


def minus(u, v):
    return tuple(a - b for a, b in zip(u, v))


def crossed(u, v):
    return (
        u[1] * v[2] - u[2] * v[1],
        u[2] * v[0] - u[0] * v[2],
        u[0] * v[1] - u[1] * v[0],
    )


def dotted(u, v):
    return sum(a * b for a, b in zip(u, v))


def signum(number):
    return (number > 0) - (number < 0)


def some_points(many, seed, top=6):
    """Points with small measures over unlike bottoms, always the same ones for one seed."""
    chance = random.Random(seed)
    found = []
    while len(found) < many:
        x, y, z = (Fraction(chance.randint(-top, top), chance.randint(1, 5)) for k in range(3))
        found.append(point_at(x, y, z))
    return found
