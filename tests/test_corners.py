"""Corners, bits and counts of bodies: [33], [34], [35]."""

import random
import unittest

from solidyard.bodies import body_of
from solidyard.corners import bits, corners, counts
from tests.helper import (
    BOX, FRAMES, GREAT_FRAMES, HEAPS, HOLED, NICKED, PLAIN, TETRA, bits_by_hand, box_rings, counts_by_hand, cube_rings,
    is_numbers, is_plain, ones, some_solid, tetra_rings, turned_inside,
)

ALL_FRAMES = FRAMES + GREAT_FRAMES
COUNTS = {
    "box": (8, 12, 6, 0), "tetrahedron": (4, 6, 4, 0), "wedge": (6, 9, 5, 0), "nothing": (0, 0, 0, 0),
    "apart": (16, 24, 12, 0), "along a wall": (8, 12, 6, 0), "along a part of a wall": (16, 24, 11, 1),
    "along an edge": (14, 23, 12, 0), "at a corner": (15, 24, 12, 0), "one within the other": (16, 24, 12, 0),
    "one in the corner of the other": (14, 21, 9, 0), "overlap": (22, 36, 18, 0),
}
# A tetrahedron whose corner lies amid an edge of the cube of size 2, and a cube with half of an edge in common.
AMID_EDGE = ones(cube_rings(0, 0, 0, 2) + tetra_rings((2, 2, 1), (4, 3, 0), (3, 4, 0), (4, 4, 2)))
HALF_EDGE = cube_rings(0, 0, 0, 2) + box_rings((2, 2, 1), (3, 3, 3))


def pairs_of(frame, *edges):
    """Bits, told by triples in a frame, in their one form and order."""
    return tuple(sorted(tuple(sorted(frame.at(*end) for end in edge)) for edge in edges))


def box_edges(low, high):
    """The twelve edges of a box as pairs of triples."""
    spots = [(x, y, z) for x in (low[0], high[0]) for y in (low[1], high[1]) for z in (low[2], high[2])]
    return [(p, q) for p in spots for q in spots if p < q and sum(a != b for a, b in zip(p, q)) == 1]


class Corners(unittest.TestCase):
    def test_of_the_body_without_points(self):
        self.assertEqual(corners(()), ())

    def test_written_out(self):
        box = body_of(PLAIN.heap(BOX))
        self.assertEqual(corners(box), (
            (0, 0, 0, 1), (0, 0, 3, 1), (0, 2, 0, 1), (0, 2, 3, 1), (1, 0, 0, 1), (1, 0, 3, 1), (1, 2, 0, 1), (1, 2, 3, 1)))
        tetra = body_of(PLAIN.heap(TETRA))
        self.assertEqual(corners(tetra), ((0, 0, 0, 1), (0, 0, 1, 1), (0, 2, 0, 1), (3, 0, 0, 1)))
        # Sorted as tuples of whole numbers, not by what they are worth.
        small = body_of(PLAIN.heap([tuple(tuple(n / 2 for n in spot) for spot in ring) for ring in TETRA]))
        self.assertEqual(corners(small), ((0, 0, 0, 1), (0, 0, 1, 2), (0, 1, 0, 1), (3, 0, 0, 2)))

    def test_sorted_and_each_once(self):
        for frame in ALL_FRAMES:
            for name, (rings, walls) in HEAPS.items():
                body = frame.body(walls)
                found = corners(body)
                self.assertTrue(type(found) is tuple and all(is_numbers(p, 4) for p in found))
                self.assertEqual(list(found), sorted(set(found)))
                self.assertEqual(set(found), {frame.at(*spot) for wall in walls for ring in wall for spot in ring}, name)

    def test_a_corner_of_one_wall_amid_a_side_of_another(self):
        for frame in ALL_FRAMES:
            self.assertIn(frame.at(2, 2, 1), corners(frame.body(AMID_EDGE)))
            self.assertEqual(len(corners(frame.body(AMID_EDGE))), 12)


class Bits(unittest.TestCase):
    def test_of_the_body_without_points(self):
        self.assertEqual(bits(()), ())

    def test_written_out(self):
        tetra = body_of(PLAIN.heap(TETRA))
        p, q, r, s = (0, 0, 0, 1), (0, 0, 1, 1), (0, 2, 0, 1), (3, 0, 0, 1)
        self.assertEqual(bits(tetra), ((p, q), (p, r), (p, s), (q, r), (q, s), (r, s)))

    def test_of_boxes(self):
        for frame in ALL_FRAMES:
            for low, high in (((0, 0, 0), (1, 2, 3)), ((-3, 1, 2), (5, 2, 7))):
                body = frame.body(ones(box_rings(low, high)))
                self.assertEqual(bits(body), pairs_of(frame, *box_edges(low, high)))

    def test_of_a_hollow(self):
        for frame in ALL_FRAMES:
            body = frame.body(ones(cube_rings(0, 0, 0, 3) + turned_inside(cube_rings(1, 1, 1))))
            edges = box_edges((0, 0, 0), (3, 3, 3)) + box_edges((1, 1, 1), (2, 2, 2))
            self.assertEqual(bits(body), pairs_of(frame, *edges))

    def test_one_bit_of_several_sides(self):
        for frame in ALL_FRAMES:
            body = frame.body(HEAPS["along an edge"][1])
            edges = box_edges((0, 0, 0), (1, 1, 1)) + box_edges((1, 1, 0), (2, 2, 1))
            self.assertEqual(bits(body), pairs_of(frame, *set(edges)))
            self.assertEqual(bits(body).count(pairs_of(frame, ((1, 1, 0), (1, 1, 1)))[0]), 1)

    def test_a_side_is_cut_at_corners_amid_it(self):
        for frame in ALL_FRAMES:
            body = frame.body(AMID_EDGE)
            spots = ((2, 2, 1), (4, 3, 0), (3, 4, 0), (4, 4, 2))
            edges = [edge for edge in box_edges((0, 0, 0), (2, 2, 2)) if edge != ((2, 2, 0), (2, 2, 2))]
            edges += [(p, q) for p in spots for q in spots if p < q]
            edges += [((2, 2, 0), (2, 2, 1)), ((2, 2, 1), (2, 2, 2))]
            self.assertEqual(bits(body), pairs_of(frame, *edges))

    def test_edges_that_share_a_part(self):
        for frame in FRAMES:
            body = body_of(frame.heap(HALF_EDGE))
            cut = (((2, 2, 0), (2, 2, 2)), ((2, 2, 1), (2, 2, 3)))
            edges = [edge for edge in box_edges((0, 0, 0), (2, 2, 2)) + box_edges((2, 2, 1), (3, 3, 3)) if edge not in cut]
            edges += [((2, 2, z), (2, 2, z + 1)) for z in range(3)]
            self.assertEqual(bits(body), pairs_of(frame, *edges))

    def test_holes_and_rings_that_come_twice_through_a_point(self):
        for frame in ALL_FRAMES:
            body = frame.body(NICKED)
            outside = ((0, 0), (2, 0), (4, 0), (4, 4), (0, 4))
            edges = []
            for ring in (outside, ((2, 0), (1, 1), (3, 1))):
                for (x, y), (u, v) in zip(ring, ring[1:] + ring[:1]):
                    edges += [((x, y, z), (u, v, z)) for z in (0, 1)]
            edges += [((x, y, 0), (x, y, 1)) for x, y in ((0, 0), (4, 0), (4, 4), (0, 4), (2, 0), (1, 1), (3, 1))]
            self.assertEqual(bits(body), pairs_of(frame, *edges))

    def test_side_by_side(self):
        chance = random.Random(121)
        for k in range(24):
            frame = FRAMES[k % len(FRAMES)]
            body = body_of(frame.heap(some_solid(chance) + some_solid(chance) + some_solid(chance)))
            found = bits(body)
            self.assertEqual(found, bits_by_hand(body))
            self.assertTrue(is_plain(found) and type(found) is tuple)
            self.assertTrue(all(p < q for p, q in found))
            self.assertEqual(list(found), sorted(set(found)))


class Counts(unittest.TestCase):
    def test_told_ones(self):
        for frame in ALL_FRAMES:
            for name, expected in COUNTS.items():
                found = counts(frame.body(HEAPS[name][1]))
                self.assertEqual(found, expected, name)
                self.assertTrue(is_numbers(found, 4))

    def test_of_the_body_without_points(self):
        self.assertEqual(counts(()), (0, 0, 0, 0))

    def test_of_rings_that_come_twice_through_a_point(self):
        for frame in ALL_FRAMES:
            # The ring of the nicked top is one outer one, that of the two holes one inner one.
            self.assertEqual(counts(frame.body(NICKED)), (14, 23, 9, 0))
            self.assertEqual(counts(frame.body(HOLED)), (22, 35, 14, 2))

    def test_of_corners_amid_sides(self):
        for frame in ALL_FRAMES:
            self.assertEqual(counts(frame.body(AMID_EDGE)), (12, 19, 10, 0))
            self.assertEqual(counts(body_of(frame.heap(HALF_EDGE))), (16, 25, 12, 0))

    def test_of_holes_in_holes(self):
        for frame in ALL_FRAMES:
            plates = [box_rings((k, k, 0), (9 - k, 9 - k, 1)) for k in range(4)]
            body = body_of(frame.heap([ring for rings in plates for ring in rings]))
            self.assertEqual(counts(body), (32, 48, 20, 4))

    def test_against_those_by_hand(self):
        chance = random.Random(122)
        for k in range(16):
            frame = FRAMES[k % len(FRAMES)]
            body = body_of(frame.heap(some_solid(chance) + some_solid(chance) + some_solid(chance)))
            self.assertEqual(counts(body), counts_by_hand(body))
            self.assertEqual(counts(body)[:2], (len(corners(body)), len(bits(body))))


if __name__ == "__main__":
    unittest.main()
