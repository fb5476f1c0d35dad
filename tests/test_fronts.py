"""What of a body lies right in front of a plane: [31]."""

import random
import unittest
from fractions import Fraction

from solidyard.bodies import body_of, heap_of
from solidyard.fronts import land_before
from solidyard.lands import is_land, land_over, land_place
from solidyard.landwords import land_less
from tests.helper import (
    BENT, BOX, FRAMES, GREAT_FRAMES, HEAPS, OTHER_BENT, PLAIN, TETRA, TINY, box_rings, is_plain, is_within, least_start,
    measures, on_x, some_plane, some_solid, spot_in, turned_over, whole,
)

ALL_FRAMES = FRAMES + GREAT_FRAMES
HALF = Fraction(1, 2)


def made(frame, name):
    return frame.body(HEAPS[name][1])


def land_in(frame, rings):
    """The land of rings with it on the left, the first one going round its outside, and the same turned over."""
    land = frame.wall(rings)
    back = turned_over(land[0]), tuple(sorted(least_start(ring[::-1]) for ring in land[1]))
    return land, back


class Fronts(unittest.TestCase):
    def check(self, body, plane, expected):
        found = land_before(body, plane)
        self.assertEqual(found, (plane, expected))
        self.assertTrue(is_plain(found))

    def test_planes_that_bear_a_wall(self):
        for frame in ALL_FRAMES:
            for name in ("box", "tetrahedron", "wedge"):
                body = made(frame, name)
                for plane, rings in body:
                    self.check(body, plane, ())
                    back = tuple(sorted(least_start(ring[::-1]) for ring in rings))
                    self.check(body, turned_over(plane), back)

    def test_written_out(self):
        box = body_of(PLAIN.heap(BOX))
        self.check(box, (1, 0, 0, 0), (((0, 0, 0, 1), (0, 2, 0, 1), (0, 2, 3, 1), (0, 0, 3, 1)),))
        self.check(box, (-1, 0, 0, 0), ())
        self.check(box, (2, 0, 0, -1), (((1, 0, 0, 2), (1, 4, 0, 2), (1, 4, 6, 2), (1, 0, 6, 2)),))
        self.check(box, (-2, 0, 0, 1), (((1, 0, 0, 2), (1, 0, 6, 2), (1, 4, 6, 2), (1, 4, 0, 2)),))
        cube = body_of(PLAIN.heap(box_rings((0, 0, 0), (2, 2, 2))))
        self.check(cube, (1, 1, 1, -2), (((0, 0, 2, 1), (2, 0, 0, 1), (0, 2, 0, 1)),))
        self.check(cube, (1, 1, 1, -3), ((
            (0, 1, 2, 1), (1, 0, 2, 1), (2, 0, 1, 1), (2, 1, 0, 1), (1, 2, 0, 1), (0, 2, 1, 1)),))
        self.check(cube, (1, -1, 0, 0), (((0, 0, 0, 1), (2, 2, 0, 1), (2, 2, 2, 1), (0, 0, 2, 1)),))
        self.check(cube, (1, 1, 1, 0), ())
        self.check(cube, (-1, -1, -1, 0), ())

    def test_planes_that_cut_through(self):
        for frame in ALL_FRAMES:
            body = made(frame, "box")
            for x in (HALF, Fraction(1, 3), Fraction(1, 10 ** 30)):
                for land in land_in(frame, on_x(x, ((0, 0), (2, 0), (2, 3), (0, 3)))):
                    self.check(body, *land)
            hollow = made(frame, "one within the other")
            for land in land_in(frame, on_x(3 * HALF, ((0, 0), (3, 0), (3, 3), (0, 3)), ((1, 1), (1, 2), (2, 2), (2, 1)))):
                self.check(hollow, *land)
            for land in land_in(frame, on_x(HALF, ((0, 0), (3, 0), (3, 3), (0, 3)))):
                self.check(hollow, *land)
            corner = made(frame, "tetrahedron")
            third = Fraction(1, 3)
            for land in land_in(frame, on_x(1, ((0, 0), (4 * third, 0), (0, 2 * third)))):
                self.check(corner, *land)

    def test_planes_that_miss(self):
        for frame in ALL_FRAMES:
            for name in ("box", "tetrahedron", "overlap", "nothing"):
                body = made(frame, name)
                for x in (-1, 4, Fraction(-1, 10 ** 30)):
                    land, back = land_in(frame, on_x(x, ((0, 0), (1, 0), (0, 1))))
                    self.check(body, land[0], ())
                    self.check(body, back[0], ())

    def test_planes_that_touch_at_an_edge_or_a_corner(self):
        for frame in ALL_FRAMES:
            body = made(frame, "box")
            for ring in (
                ((0, 0, 0), (0, 0, 1), (1, -1, 0)), ((0, 0, 0), (1, -1, 0), (0, 1, -1)),
                ((1, 2, 3), (1, 2, 0), (0, 3, 0)), ((1, 2, 3), (2, 1, 3), (1, 3, 2)),
            ):
                plane = frame.plane(ring)
                self.check(body, plane, ())
                self.check(body, turned_over(plane), ())

    def test_walls_on_both_sides(self):
        for frame in ALL_FRAMES:
            body = made(frame, "overlap")
            ahead, back = land_in(frame, on_x(1, BENT, OTHER_BENT))
            self.check(body, *ahead)
            land, behind = land_in(frame, on_x(1, ((0, 0), (2, 0), (2, 2), (0, 2))))
            self.check(body, *behind)
            edge = made(frame, "along an edge")
            land, back = land_in(frame, on_x(1, ((1, 0), (2, 0), (2, 1), (1, 1))))
            self.check(edge, *land)
            land, back = land_in(frame, on_x(1, ((0, 0), (1, 0), (1, 1), (0, 1))))
            self.check(edge, *back)
            hollow = made(frame, "one within the other")
            land, back = land_in(frame, on_x(1, ((0, 0), (3, 0), (3, 3), (0, 3)), ((1, 1), (1, 2), (2, 2), (2, 1))))
            self.check(hollow, *land)
            land, back = land_in(frame, on_x(1, ((0, 0), (3, 0), (3, 3), (0, 3))))
            self.check(hollow, *back)

    def test_the_walls_are_told_by_it(self):
        for frame in FRAMES:
            for name in HEAPS:
                body = made(frame, name)
                for plane in {turn for plane, rings in body for turn in (plane, turned_over(plane))}:
                    before = land_before(body, plane)
                    behind = land_over(land_before(body, turned_over(plane)))
                    self.assertEqual(land_less(behind, before), (plane, dict(body).get(plane, ())))

    def test_point_by_point(self):
        chance = random.Random(101)
        for k in range(30):
            frame = FRAMES[k % len(FRAMES)]
            body = body_of(frame.heap(some_solid(chance) + some_solid(chance)))
            if not body:
                continue
            planes = [chance.choice(body)[0], some_plane(chance, frame), turned_over(some_plane(chance, frame))]
            for plane in planes:
                before, behind = land_before(body, plane), land_before(body, turned_over(plane))
                self.assertTrue(is_land(before) and is_land(behind))
                for n in range(5):
                    p = spot_in(chance, plane, heap_of(body) + (point_in(plane),))
                    for step, land in ((TINY, before), (-TINY, behind)):
                        spot = tuple(a + step * b for a, b in zip(measures(p), plane))
                        expected = 1 if is_within(heap_of(body), spot) else -1
                        self.assertEqual(land_place(land, p), expected)

    def test_the_body_without_points(self):
        for plane in ((0, 0, 1, 0), (-3, 1, 2, 7)):
            self.check((), plane, ())

    def test_of_the_tetrahedron_alongside_a_side(self):
        body = body_of(PLAIN.heap(TETRA))
        self.check(body, (2, 3, 6, -3), (((0, 0, 1, 2), (3, 0, 0, 2), (0, 1, 0, 1)),))
        self.check(body, (-2, -3, -6, 3), (((0, 0, 1, 2), (0, 1, 0, 1), (3, 0, 0, 2)),))


def point_in(plane):
    """A ring of one point of a plane."""
    axis = next(k for k in range(3) if plane[k])
    numbers = [0, 0, 0]
    numbers[axis] = Fraction(-plane[3], plane[axis])
    return (whole(numbers + [1]),)


if __name__ == "__main__":
    unittest.main()
