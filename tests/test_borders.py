"""Sets known by their ends, borders on several lines and hulls in several planes: the way of [62] to [66]."""

import random
import unittest
from itertools import permutations

from solidyard.borders import (
    border_common, border_either, border_joined, border_less, border_of, border_stretches, left_row, meetings, standing,
)
from solidyard.ends import ends_kept, in_order, is_ahead, odd_ends
from solidyard.lines import line_through
from solidyard.planes import height
from solidyard.rings import ring_begun, ring_sides, rings_round, sides_of
from solidyard.walls import body_hull, body_told, border_before, hull_common, hull_either, hull_sides
from tests.helper import CUBE, GREAT, PLAIN, SHEETS, cube_rings, is_plain

LINE = (1, 0, 0, 0, 0, 0)
A, B, C, D = (0, 0, 0, 1), (3, 0, 0, 4), (1, 0, 0, 1), (2, 0, 0, 1)
FLOOR = SHEETS[0]
CORNERS = FLOOR.square(0, 0)


def sides(ring):
    return list(zip(ring, ring[1:] + ring[:1]))


class Ends(unittest.TestCase):
    def test_is_ahead(self):
        self.assertIs(is_ahead(LINE, B, C), True)
        self.assertIs(is_ahead(LINE, C, B), False)
        self.assertIs(is_ahead(LINE, B, B), False)
        self.assertIs(is_ahead((0, 0, 2, -1, 1, 0), (-1, -1, 1, 2), (-1, -1, 2, 2)), True)

    def test_in_order(self):
        for order in permutations([A, B, C, D]):
            self.assertEqual(in_order(LINE, list(order)), [A, B, C, D])
        self.assertEqual(in_order(LINE, []), [])
        near = [(n, 0, 0, n + 1) for n in range(GREAT, GREAT + 20)]
        shuffled = list(near)
        random.Random(51).shuffle(shuffled)
        self.assertEqual(in_order(LINE, shuffled), near)
        below = [(-n - 1, 0, 0, n) for n in range(1, 40)]
        self.assertEqual(in_order(LINE, below[::-1]), below)

    def test_odd_ends_stand_an_odd_number_of_times(self):
        self.assertEqual(odd_ends(LINE, []), [])
        self.assertEqual(odd_ends(LINE, [C, A]), [A, C])
        self.assertEqual(odd_ends(LINE, [C, A, D, B, B, B]), [A, B, C, D])
        self.assertEqual(odd_ends(LINE, [A, C, C, D]), [A, D])
        self.assertEqual(odd_ends(LINE, [A, C, A, C]), [])

    def test_kept(self):
        self.assertEqual(ends_kept(LINE, [A, C], [B, D], lambda one, other: one and other), [B, C])
        self.assertEqual(ends_kept(LINE, [A, C], [B, D], lambda one, other: other), [B, D])


class Borders(unittest.TestCase):
    def test_of_a_ring(self):
        border = border_of(sides(CORNERS))
        self.assertTrue(is_plain(tuple(border.items())))
        self.assertEqual(sorted(border), sorted({line_through(p, q) for p, q in sides(CORNERS)}))
        p, q, r, s = CORNERS
        self.assertEqual(border[line_through(p, q)], ((p, q),))
        self.assertEqual(border[line_through(s, r)], ((s, r),))
        self.assertEqual(sorted(border_stretches(border)), sorted([(p, q), (q, r), (s, r), (p, s)]))

    def test_nothing_comes_of_stretches_that_come_twice(self):
        self.assertEqual(border_of(sides(CORNERS) + sides(CORNERS[::-1])), {})
        self.assertEqual(border_of([(A, A)]), {})
        self.assertEqual(border_of([]), {})

    def test_either(self):
        far = FLOOR.square(2, 0)
        one, other = border_of(sides(CORNERS)), border_of(sides(far))
        made = border_either(one, other)
        self.assertEqual(made, border_of(sides(CORNERS) + sides(far)))
        self.assertEqual(made, border_either(other, one))
        self.assertEqual(made[LINE], (((0, 0, 0, 1), (4, 0, 0, 1)),))
        self.assertNotIn(line_through(CORNERS[1], CORNERS[2]), made)
        self.assertEqual(border_either(one, one), {})
        self.assertEqual(border_either(one, {}), one)
        self.assertEqual(border_either({}, one), one)
        self.assertEqual((one, other), (border_of(sides(CORNERS)), border_of(sides(far))))

    def test_words(self):
        for sheet in SHEETS:
            one, other = border_of(sides(sheet.square(0, 0))), border_of(sides(sheet.square(1, 1)))
            shared = border_of(sides(sheet.square(1, 1, 1)))
            self.assertEqual(border_common(sheet.plane, one, other), shared)
            self.assertEqual(border_common(sheet.plane, one, {}), {})
            self.assertEqual(border_less(sheet.plane, one, other), border_either(one, shared))
            both = border_either(border_either(one, other), shared)
            self.assertEqual(border_joined(sheet.plane, one, other), both)

    def test_standing_planes_have_the_left_in_front(self):
        for sheet in SHEETS:
            for one, other in (((0, 0), (1, 0)), ((0, 0), (0, 1)), ((2, 1), (-1, 3))):
                p, q = sheet.at(*one), sheet.at(*other)
                line = line_through(p, q)
                if not is_ahead(line, p, q):
                    (p, q), (one, other) = (q, p), (other, one)
                upon = standing(sheet.plane, line)
                left = sheet.at(one[0] - (other[1] - one[1]), one[1] + (other[0] - one[0]))
                right = sheet.at(one[0] + (other[1] - one[1]), one[1] - (other[0] - one[0]))
                self.assertEqual([height(upon, here) for here in (p, q, sheet.off(*one))], [0, 0, 0])
                self.assertGreater(height(upon, left), 0)
                self.assertLess(height(upon, right), 0)

    def test_left_rows(self):
        p, q, r, s = CORNERS
        along = line_through(p, q)
        self.assertEqual(left_row(sides(CORNERS), FLOOR.plane, along), ((p, q),))
        self.assertEqual(left_row(sides(CORNERS), FLOOR.back, along), ())
        self.assertEqual(left_row(sides(CORNERS), FLOOR.plane, line_through(s, r)), ())
        self.assertEqual(left_row(sides(CORNERS), FLOOR.plane, line_through(p, r)), ((p, r),))

    def test_meetings(self):
        p, q, r, s = CORNERS
        # Across, at two corners, and along a side, which itself is not asked.
        self.assertEqual(meetings(sides(CORNERS), (1, 0, 0, -1)), {(1, 0, 0, 1): True, (1, 2, 0, 1): True})
        self.assertEqual(meetings(sides(CORNERS), (1, -1, 0, 0)), {p: True, r: True})
        self.assertEqual(meetings(sides(CORNERS), (1, 0, 0, 0)), {p: True, s: True})
        self.assertEqual(meetings(sides(CORNERS), (-1, 0, 0, 0)), {p: False, s: False})
        self.assertEqual(meetings(sides(CORNERS), (1, 1, 0, 0)), {p: False})
        self.assertEqual(meetings(sides(CORNERS), (0, 0, 1, 0)), {})


class Rings(unittest.TestCase):
    def test_sides(self):
        p, q, r, s = CORNERS
        self.assertEqual(ring_sides([p, q, r]), [(p, q), (q, r), (r, p)])
        self.assertEqual(ring_sides((p,)), [(p, p)])
        self.assertEqual(ring_sides(()), [])
        self.assertEqual(sides_of([(p, q), [r]]), [(p, q), (q, p), (r, r)])

    def test_begun(self):
        self.assertEqual(ring_begun((B, A, D, A, C)), (A, C, B, A, D))
        self.assertEqual(ring_begun((A, B, A, B)), (A, B, A, B))

    def test_round(self):
        self.assertEqual(rings_round(FLOOR.plane, border_of(sides(CORNERS[::-1]))), (CORNERS,))
        self.assertEqual(rings_round(FLOOR.plane, {}), ())


class Hulls(unittest.TestCase):
    def test_of_a_body(self):
        cube = PLAIN.body([[ring] for ring in CUBE])
        hull = body_hull(cube)
        self.assertEqual(sorted(hull), sorted(max(plane, tuple(-n for n in plane)) for plane, rings in cube))
        self.assertEqual(body_told(hull), cube)
        self.assertEqual(hull_either(hull, hull), {})
        self.assertEqual(hull_common(hull, hull), hull)
        self.assertEqual(body_told({}), ())

    def test_two_cubes(self):
        one, other = (body_hull(PLAIN.body([[ring] for ring in cube_rings(k, k, k, 2)])) for k in (0, 1))
        shared = body_hull(PLAIN.body([[ring] for ring in cube_rings(1, 1, 1)]))
        self.assertEqual(hull_common(one, other), shared)
        self.assertEqual(hull_common(other, one), shared)
        self.assertEqual(hull_common(one, {}), {})

    def test_before(self):
        hull = body_hull(PLAIN.body([[ring] for ring in CUBE]))
        stretches = hull_sides(hull)
        self.assertEqual(border_before(stretches, (0, 0, 1, 0)), border_of(sides(FLOOR.square(0, 0, 1))))
        self.assertEqual(border_before(stretches, (0, 0, -1, 0)), {})


if __name__ == "__main__":
    unittest.main()
