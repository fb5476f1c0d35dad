"""Rows on a line: [15] and [16]."""

import random
import unittest
from fractions import Fraction
from itertools import combinations, combinations_with_replacement, permutations, product

from solidyard.errors import OffLine, YardError
from solidyard.lines import line_through
from solidyard.rows import row_common, row_either, row_joined, row_less, row_of, row_place
from tests.helper import GREAT, HUGE, LIMIT, is_plain, measures, point_at

# Lines, each told by the measures of a point on it and by its way; t grows along the way.
LINES = (
    ((Fraction(0), Fraction(0), Fraction(0)), (1, 0, 0)),
    ((Fraction(1, 2), Fraction(-3), Fraction(2, 7)), (0, 1, 0)),
    ((Fraction(5), Fraction(1, 3), Fraction(-9)), (0, 0, 1)),
    ((Fraction(1, 2), Fraction(-3), Fraction(2, 7)), (1, -4, 0)),
    ((Fraction(-2), Fraction(1, 3), Fraction(5, 2)), (0, 3, -2)),
    ((Fraction(4), Fraction(-1, 5), Fraction(0)), (2, -7, -1)),
)
WORDS = (
    (row_joined, lambda in_one, in_other: in_one or in_other),
    (row_common, lambda in_one, in_other: in_one and in_other),
    (row_less, lambda in_one, in_other: in_one and not in_other),
    (row_either, lambda in_one, in_other: in_one != in_other),
)
STEPS = [Fraction(n, 6) for n in (-13, -9, -8, -5, -3, -2, 0, 1, 2, 3, 4, 7, 10, 12)]


class Ruler:
    """One of the lines, with its points by t."""

    def __init__(self, start, way):
        self.start, self.way = start, way
        self.line = line_through(self.at(0), self.at(1))

    def at(self, t):
        return point_at(*(a + Fraction(t) * d for a, d in zip(self.start, self.way)))

    def pairs(self, stretches):
        return [(self.at(s), self.at(t)) for s, t in stretches]

    def row(self, ends, is_within):
        """The row of what is within, of which nothing changes but at these t."""
        known = sorted(set(ends))
        told = []
        for low, high in zip(known, known[1:]):
            if is_within((low + high) / 2):
                if told and told[-1][1] == low:
                    low = told.pop()[0]
                told.append((low, high))
        return tuple(self.pairs(told))


def rulers():
    return [Ruler(start, way) for start, way in LINES]


def between(stretches, t):
    """How many of the stretches have t between their two points."""
    return sum(min(pair) < t < max(pair) for pair in stretches)


def some_stretches(chance, many, steps=STEPS):
    return [(chance.choice(steps), chance.choice(steps)) for k in range(many)]


def beside(p):
    """A point near p; it is off the line that holds p, as no way here goes along (1, 2, -5)."""
    return point_at(*(a + off for a, off in zip(measures(p), (1, 2, -5))))


class Of(unittest.TestCase):
    def check(self, ruler, stretches):
        ends = [t for pair in stretches for t in pair]
        expected = ruler.row(ends, lambda t: between(stretches, t) % 2 == 1)
        pairs = ruler.pairs(stretches)
        for handed in (pairs, tuple(pairs)):
            found = row_of(ruler.line, handed)
            self.assertEqual(found, expected, stretches)
            self.assertTrue(is_plain(found) and type(found) is tuple)
            self.assertTrue(all(type(pair) is tuple and len(pair) == 2 for pair in found))
        return expected

    def test_told_ones(self):
        line, p, q, r, s = (1, 0, 0, 0, 0, 0), (0, 0, 0, 1), (1, 0, 0, 2), (1, 0, 0, 1), (2, 0, 0, 1)
        self.assertEqual(row_of(line, [(p, q)]), ((p, q),))
        self.assertEqual(row_of(line, [(q, p)]), ((p, q),))
        self.assertEqual(row_of(line, [(r, s), (q, p)]), ((p, q), (r, s)))
        self.assertEqual(row_of(line, [(p, q), (q, r)]), ((p, r),))
        self.assertEqual(row_of(line, [(p, r), (q, s)]), ((p, q), (r, s)))
        self.assertEqual(row_of(line, [(p, s), (r, q)]), ((p, q), (r, s)))
        self.assertEqual(row_of(line, [(p, r), (q, r)]), ((p, q),))

    def test_no_stretches(self):
        for ruler in rulers():
            self.assertEqual(row_of(ruler.line, []), ())
            self.assertEqual(row_of(ruler.line, ()), ())

    def test_a_pair_several_times(self):
        for ruler in rulers():
            self.assertEqual(len(self.check(ruler, [(0, 1)])), 1)
            self.assertEqual(self.check(ruler, [(0, 1), (0, 1)]), ())
            self.assertEqual(self.check(ruler, [(0, 1), (1, 0)]), ())
            self.assertEqual(len(self.check(ruler, [(0, 1), (1, 0), (0, 1)])), 1)
            self.assertEqual(self.check(ruler, [(0, 1), (1, 0), (0, 1), (1, 0)]), ())

    def test_a_point_and_itself(self):
        for ruler in rulers():
            self.assertEqual(self.check(ruler, [(2, 2)]), ())
            self.assertEqual(self.check(ruler, [(2, 2), (2, 2), (2, 2)]), ())
            for t in (-1, 0, Fraction(1, 2), 1, 2):
                self.assertEqual(len(self.check(ruler, [(0, 1), (t, t)])), 1)
                self.assertEqual(len(self.check(ruler, [(t, t), (0, 1)])), 1)

    def test_touching_overlapping_and_within(self):
        for ruler in rulers():
            self.assertEqual(len(self.check(ruler, [(0, 1), (1, 2)])), 1)
            self.assertEqual(len(self.check(ruler, [(1, 2), (0, 1), (2, 3)])), 1)
            self.assertEqual(len(self.check(ruler, [(0, 2), (1, 3)])), 2)
            self.assertEqual(len(self.check(ruler, [(0, 3), (1, 2)])), 2)
            self.assertEqual(len(self.check(ruler, [(0, 3), (0, 2)])), 1)
            self.assertEqual(len(self.check(ruler, [(0, 3), (1, 3)])), 1)
            self.assertEqual(len(self.check(ruler, [(0, 5), (1, 4), (2, 3)])), 3)
            self.assertEqual(len(self.check(ruler, [(0, 2), (1, 3), (1, 2)])), 1)

    def test_all_of_few_points(self):
        ruler = Ruler(*LINES[5])
        steps = (-1, Fraction(1, 3), Fraction(1, 2), 2)
        pairs = list(product(steps, repeat=2))
        for stretches in combinations_with_replacement(pairs, 2):
            self.check(ruler, list(stretches))
        forward = list(combinations(steps, 2))
        for stretches in product(forward, repeat=3):
            self.check(ruler, list(stretches))

    def test_many_of_them(self):
        chance = random.Random(41)
        for ruler in rulers():
            for many in (3, 4, 5, 7, 8, 13, 20, 60):
                self.check(ruler, some_stretches(chance, many))

    def test_order_of_the_stretches_is_all_one(self):
        ruler = Ruler(*LINES[3])
        stretches = [(0, 3), (1, 2), (5, 2), (7, 7)]
        told = {row_of(ruler.line, ruler.pairs(order)) for order in permutations(stretches)}
        self.assertEqual(len(told), 1)

    def test_order_is_not_that_of_tuples(self):
        line = (1, 0, 0, 0, 0, 0)
        near, far = (3, 0, 0, 4), (1, 0, 0, 1)
        self.assertGreater(near, far)
        self.assertEqual(row_of(line, [(far, near)]), ((near, far),))
        self.assertEqual(row_of(line, [(near, far)]), ((near, far),))
        ahead, behind = (-1, 0, 0, 1), (-3, 0, 0, 4)
        self.assertGreater(ahead, behind)
        self.assertEqual(row_of(line, [(near, far), (behind, ahead)]), ((ahead, behind), (near, far)))
        steps = [(1, 0, 0, 100), (1, 0, 0, 10), (1, 0, 0, 9), (1, 0, 0, 8)]
        self.assertEqual(
            row_of(line, [(steps[3], steps[2]), (steps[0], steps[1])]),
            ((steps[0], steps[1]), (steps[2], steps[3])))

    def test_along_the_second_and_third_axis(self):
        for line, at in (((0, 1, 0, 0, 0, 0), 1), ((0, 0, 1, 0, 0, 0), 2)):
            points = []
            for n, w in ((-1, 2), (-1, 3), (1, 5), (1, 4), (3, 2), (7, 1)):
                p = [0, 0, 0, w]
                p[at] = n
                points.append(tuple(p))
            pairs = [(points[5], points[4]), (points[1], points[0]), (points[2], points[3])]
            self.assertEqual(row_of(line, pairs), tuple(zip(points[0::2], points[1::2])))

    def test_the_way_of_the_line_goes_ahead_of_other_measures(self):
        ruler = Ruler((Fraction(0),) * 3, (1, -4, -9))
        p, q = ruler.at(Fraction(1, 3)), ruler.at(Fraction(1, 2))
        self.assertEqual(row_of(ruler.line, [(q, p)]), ((p, q),))
        ruler = Ruler((Fraction(0),) * 3, (0, 1, -9))
        p, q = ruler.at(Fraction(1, 3)), ruler.at(Fraction(1, 2))
        self.assertEqual(row_of(ruler.line, [(q, p)]), ((p, q),))

    def test_great_ones(self):
        for start, way in (LINES[0], LINES[5]):
            ruler = Ruler(start, way)
            for great in (GREAT, HUGE, LIMIT):
                steps = [Fraction(-great), Fraction(great, great + 1), Fraction(great + 1, great + 2), Fraction(great)]
                for order in permutations(steps):
                    self.check(ruler, [order[:2], order[2:]])

    def test_list_stays_as_it_is(self):
        ruler = Ruler(*LINES[4])
        pairs = ruler.pairs([(3, 1), (0, 2), (2, 2), (5, 4), (5, 4)])
        handed = list(pairs)
        found = row_of(ruler.line, handed)
        self.assertEqual(handed, pairs)
        self.assertTrue(all(one is other for one, other in zip(handed, pairs)))
        kept = tuple(found)
        handed.clear()
        self.assertEqual(found, kept)
        self.assertEqual(row_of(ruler.line, pairs), kept)
        self.assertEqual(row_of(ruler.line, handed), ())
        handed.append(pairs[0])
        self.assertEqual(row_of(ruler.line, handed), tuple(ruler.pairs([(1, 3)])))

    def test_a_row_is_its_own_row(self):
        chance = random.Random(42)
        for ruler in rulers():
            row = row_of(ruler.line, ruler.pairs(some_stretches(chance, 9)))
            self.assertEqual(row_of(ruler.line, row), row)

    def test_off_the_line_is_refused(self):
        for ruler in rulers():
            good = ruler.pairs([(0, 1), (2, 3), (4, 4)])
            p = good[0][0]
            far = ruler.at(GREAT)
            for bad in (beside(p), beside(far)):
                for pair in ((p, bad), (bad, p), (bad, bad)):
                    for at in range(4):
                        handed = good[:at] + [pair] + good[at:]
                        for stretches in (handed, tuple(handed), handed + [pair], handed + [pair[::-1]]):
                            with self.assertRaises(OffLine) as caught:
                                row_of(ruler.line, stretches)
                            self.assertIsInstance(caught.exception, YardError)
                    with self.assertRaises(OffLine):
                        row_of(ruler.line, [pair])

    def test_right_beside_the_line_is_refused(self):
        line = (1, 0, 0, 0, 0, 0)
        for great in (GREAT, HUGE, LIMIT):
            for bad in ((5, 1, 0, great), (5, 0, -1, great)):
                for pair in ((bad, bad), (bad, (5, 0, 0, great)), ((0, 0, 0, 1), bad)):
                    with self.assertRaises(OffLine):
                        row_of(line, [pair])


class Place(unittest.TestCase):
    def place(self, stretches, t):
        if any(t in pair for pair in stretches):
            return 0
        return 1 if between(stretches, t) else -1

    def check(self, ruler, stretches, t):
        found = row_place(ruler.line, tuple(ruler.pairs(stretches)), ruler.at(t))
        self.assertEqual(found, self.place(stretches, t), (stretches, t))
        self.assertIs(type(found), int)

    def test_within_at_an_end_and_elsewhere(self):
        stretches = [(Fraction(-5, 2), Fraction(-1)), (Fraction(0), Fraction(1, 3)), (Fraction(1, 2), Fraction(4))]
        asked = [Fraction(n, 12) for n in range(-40, 60)]
        for ruler in rulers():
            for many in range(4):
                for t in asked:
                    self.check(ruler, stretches[:many], t)

    def test_told_ones(self):
        line, row = (1, 0, 0, 0, 0, 0), (((0, 0, 0, 1), (1, 0, 0, 2)), ((1, 0, 0, 1), (3, 0, 0, 1)))
        for p, expected in (
            ((-1, 0, 0, 1), -1), ((0, 0, 0, 1), 0), ((1, 0, 0, 3), 1), ((1, 0, 0, 2), 0), ((2, 0, 0, 3), -1),
            ((1, 0, 0, 1), 0), ((2, 0, 0, 1), 1), ((3, 0, 0, 1), 0), ((7, 0, 0, 2), -1),
        ):
            self.assertEqual(row_place(line, row, p), expected, p)

    def test_near_the_ends(self):
        for start, way in LINES[:1] + LINES[3:]:
            ruler = Ruler(start, way)
            for great in (GREAT, HUGE, LIMIT):
                low, high = Fraction(great, great + 1), Fraction(great + 2, great + 3)
                for t in (low - Fraction(1, great), low, Fraction(great + 1, great + 2), high, high + Fraction(1, great)):
                    self.check(ruler, [(low, high)], t)

    def test_row_without_pairs(self):
        for ruler in rulers():
            self.assertEqual(row_place(ruler.line, (), ruler.at(Fraction(7, 3))), -1)

    def test_off_the_line_is_refused(self):
        for ruler in rulers():
            row = tuple(ruler.pairs([(0, 1), (2, 3)]))
            for t in (-1, 0, Fraction(1, 2), Fraction(3, 2), 3, GREAT):
                p = ruler.at(t)
                bad = beside(p)
                for asked in (row, row[:1], ()):
                    with self.assertRaises(OffLine) as caught:
                        row_place(ruler.line, asked, bad)
                    self.assertIsInstance(caught.exception, YardError)

    def test_off_the_line_with_great_numbers(self):
        with self.assertRaises(OffLine):
            row_place((1, 0, 0, 0, 0, 0), (), (LIMIT, 1, 0, LIMIT - 1))


class Words(unittest.TestCase):
    def check(self, ruler, one, other):
        """one and other are stretches apart from one another, as they stand in rows."""
        ends = [t for pair in one + other for t in pair]
        for told, keeps in WORDS:
            expected = ruler.row(ends, lambda t: keeps(between(one, t) == 1, between(other, t) == 1))
            rows = tuple(ruler.pairs(one)), tuple(ruler.pairs(other))
            found = told(ruler.line, *rows)
            self.assertEqual(found, expected, (told, one, other))
            self.assertTrue(is_plain(found) and type(found) is tuple)

    def test_told_ones(self):
        line, p, q, r, s = (1, 0, 0, 0, 0, 0), (0, 0, 0, 1), (1, 0, 0, 2), (1, 0, 0, 1), (2, 0, 0, 1)
        one, other = ((p, r),), ((q, s),)
        self.assertEqual(row_joined(line, one, other), ((p, s),))
        self.assertEqual(row_common(line, one, other), ((q, r),))
        self.assertEqual(row_less(line, one, other), ((p, q),))
        self.assertEqual(row_less(line, other, one), ((r, s),))
        self.assertEqual(row_either(line, one, other), ((p, q), (r, s)))

    def test_touching(self):
        line, p, q, r = (1, 0, 0, 0, 0, 0), (0, 0, 0, 1), (1, 0, 0, 2), (1, 0, 0, 1)
        for one, other in ((((p, q),), ((q, r),)), (((q, r),), ((p, q),))):
            self.assertEqual(row_joined(line, one, other), ((p, r),))
            self.assertEqual(row_either(line, one, other), ((p, r),))
            self.assertEqual(row_common(line, one, other), ())
            self.assertEqual(row_less(line, one, other), one)

    def test_the_same_and_without_pairs(self):
        for ruler in rulers():
            row = tuple(ruler.pairs([(0, 1), (Fraction(3, 2), 4)]))
            line = ruler.line
            self.assertEqual([told(line, row, row) for told, keeps in WORDS], [row, row, (), ()])
            self.assertEqual([told(line, row, ()) for told, keeps in WORDS], [row, (), row, row])
            self.assertEqual([told(line, (), row) for told, keeps in WORDS], [row, (), (), row])
            self.assertEqual([told(line, (), ()) for told, keeps in WORDS], [(), (), (), ()])

    def test_all_of_one_and_one_stretch(self):
        steps = (Fraction(-1), Fraction(1, 3), Fraction(1, 2), Fraction(2))
        pairs = list(combinations(steps, 2))
        for ruler in rulers():
            for one, other in product(pairs, repeat=2):
                self.check(ruler, [one], [other])

    def test_all_of_few_ends(self):
        ruler = Ruler(*LINES[4])
        steps = [Fraction(n, 5) for n in (-7, -2, 0, 1, 3)]
        rows = [[]] + [[pair] for pair in combinations(steps, 2)]
        rows += [[four[:2], four[2:]] for four in combinations(steps, 4)]
        for one, other in product(rows, repeat=2):
            self.check(ruler, one, other)

    def test_many_stretches(self):
        chance = random.Random(43)
        for ruler in rulers():
            for many in (4, 8, 20, 40):
                rows = []
                for k in range(2):
                    ends = sorted(chance.sample(range(-60, 61), 2 * many))
                    rows.append([(Fraction(s, 7), Fraction(t, 7)) for s, t in zip(ends[0::2], ends[1::2])])
                self.check(ruler, *rows)

    def test_long_rows_that_share_all_ends(self):
        ruler = Ruler(*LINES[0])
        one = tuple(ruler.pairs([(2 * k, 2 * k + 1) for k in range(500)]))
        gaps = tuple(ruler.pairs([(2 * k + 1, 2 * k + 2) for k in range(499)]))
        all_of_it = tuple(ruler.pairs([(0, 999)]))
        self.assertEqual(row_joined(ruler.line, one, gaps), all_of_it)
        self.assertEqual(row_either(ruler.line, gaps, one), all_of_it)
        self.assertEqual(row_common(ruler.line, one, gaps), ())
        self.assertEqual(row_less(ruler.line, all_of_it, one), gaps)
        self.assertEqual(row_less(ruler.line, one, gaps), one)
        self.assertEqual(row_of(ruler.line, one + gaps), all_of_it)

    def test_great_ones(self):
        for start, way in LINES[:1] + LINES[5:]:
            ruler = Ruler(start, way)
            for great in (GREAT, HUGE, LIMIT):
                steps = [Fraction(great + k, great + k + 1) for k in range(4)]
                for s, t, u, v in ((0, 1, 2, 3), (0, 2, 1, 3), (0, 3, 1, 2), (0, 1, 1, 3), (0, 1, 0, 3)):
                    one, other = [(steps[s], steps[t])], [(steps[u], steps[v])]
                    self.check(ruler, one, other)
                    self.check(ruler, other, one)

    def test_words_by_places(self):
        chance = random.Random(44)
        ruler = Ruler(*LINES[5])
        for k in range(30):
            one, other = (row_of(ruler.line, ruler.pairs(some_stretches(chance, 5))) for n in range(2))
            for told, keeps in WORDS:
                made = told(ruler.line, one, other)
                for n in range(-16, 15):
                    p = ruler.at(Fraction(2 * n + 1, 12))
                    places = [row_place(ruler.line, row, p) for row in (one, other, made)]
                    self.assertEqual(places[2] == 1, keeps(places[0] == 1, places[1] == 1))


if __name__ == "__main__":
    unittest.main()
