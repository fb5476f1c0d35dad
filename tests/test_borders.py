"""Sets known by their ends, and borders on several lines: the way of [62]."""

import unittest

from solidyard.borders import border_either, border_of, border_row, border_stretches
from solidyard.ends import ends_either, ends_kept, ends_of_pairs, is_ahead
from solidyard.lines import line_through
from tests.helper import is_plain

LINE = (1, 0, 0, 0, 0, 0)
A, B, C, D = (0, 0, 0, 1), (3, 0, 0, 4), (1, 0, 0, 1), (2, 0, 0, 1)
CORNERS = ((0, 0, 0, 1), (2, 0, 0, 1), (2, 2, 0, 1), (0, 2, 0, 1))


def sides(ring):
    return list(zip(ring, ring[1:] + ring[:1]))


class Ends(unittest.TestCase):
    def test_is_ahead(self):
        self.assertIs(is_ahead(LINE, B, C), True)
        self.assertIs(is_ahead(LINE, C, B), False)
        self.assertIs(is_ahead(LINE, B, B), False)
        self.assertIs(is_ahead((0, 0, 2, -1, 1, 0), (-1, -1, 1, 2), (-1, -1, 2, 2)), True)

    def test_either_has_what_stands_in_just_one(self):
        self.assertEqual(ends_either(LINE, [A, C], [B, D]), [A, B, C, D])
        self.assertEqual(ends_either(LINE, [A, C], [C, D]), [A, D])
        self.assertEqual(ends_either(LINE, [A, C], [A, C]), [])
        self.assertEqual(ends_either(LINE, [], [B, D]), [B, D])

    def test_kept(self):
        self.assertEqual(ends_kept(LINE, [A, C], [B, D], lambda one, other: one and other), [B, C])
        self.assertEqual(ends_kept(LINE, [A, C], [B, D], lambda one, other: other), [B, D])

    def test_of_pairs(self):
        self.assertEqual(ends_of_pairs(LINE, []), [])
        self.assertEqual(ends_of_pairs(LINE, [(C, A)]), [A, C])
        self.assertEqual(ends_of_pairs(LINE, [(C, A), (D, B), (B, B)]), [A, B, C, D])


class Borders(unittest.TestCase):
    def test_of_a_ring(self):
        border = border_of(sides(CORNERS))
        self.assertTrue(is_plain(border))
        self.assertEqual([line for line, row in border], sorted({line_through(p, q) for p, q in sides(CORNERS)}))
        p, q, r, s = CORNERS
        self.assertEqual(border_row(border, line_through(p, q)), ((p, q),))
        self.assertEqual(border_row(border, line_through(s, r)), ((s, r),))
        self.assertEqual(border_row(border, line_through(p, r)), ())
        self.assertEqual(sorted(border_stretches(border)), sorted([(p, q), (q, r), (s, r), (p, s)]))

    def test_nothing_comes_of_stretches_that_come_twice(self):
        self.assertEqual(border_of(sides(CORNERS) + sides(CORNERS[::-1])), ())
        self.assertEqual(border_of([(A, A)]), ())
        self.assertEqual(border_of([]), ())

    def test_either(self):
        far = tuple((x + 2, y, z, w) for x, y, z, w in CORNERS)
        one, other = border_of(sides(CORNERS)), border_of(sides(far))
        made = border_either(one, other)
        self.assertEqual(made, border_of(sides(CORNERS) + sides(far)))
        self.assertEqual(made, border_either(other, one))
        self.assertEqual(border_row(made, (1, 0, 0, 0, 0, 0)), (((0, 0, 0, 1), (4, 0, 0, 1)),))
        self.assertEqual(border_row(made, line_through(CORNERS[1], CORNERS[2])), ())
        self.assertEqual(border_either(one, one), ())
        self.assertEqual(border_either(one, ()), one)
        self.assertEqual(border_either((), one), one)


if __name__ == "__main__":
    unittest.main()
