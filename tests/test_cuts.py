"""Cuts, parts, dice and all joined: [40] to [43], and [5] as far as it speaks of them."""

import random
import unittest
from fractions import Fraction
from itertools import permutations

from solidyard.bodies import body_of, is_body
from solidyard.cuts import cut, diced, joined_all, part
from solidyard.fronts import land_before
from solidyard.lands import is_land, land_over, land_place
from solidyard.landwords import land_common
from solidyard.volumes import place
from solidyard.words import common, joined
from tests.helper import (
    BENT, BOX, CUBE, FRAMES, GREAT_FRAMES, HEAPS, HOLED, NICKED, PLAIN, TETRA, box_rings, cube_rings, dotted,
    is_plain, is_within, land_by_hand, least_start, measures, on_x, ones, some_plane, some_solid, some_spots, spot_in,
    tetra_rings, turned_inside, turned_over, volume_of,
)

ALL_FRAMES = FRAMES + GREAT_FRAMES
HALF = Fraction(1, 2)
BIG = cube_rings(0, 0, 0, 3)


def x_plane(frame, x, turns=1):
    """The plane of a frame's points with this first number, its front at greater ones, or at lesser ones."""
    return frame.plane(on_x(x, ((0, 0), (1, 0), (0, 1)))[0][::turns])


def rings_of(body):
    return [ring for plane, rings in body for ring in rings]


class Cuts(unittest.TestCase):
    def check(self, frame, walls, x, *rings):
        """The cut at x of a body of these walls, told in the plane and in the same turned over."""
        body = frame.body(walls)
        expected = frame.wall(on_x(x, *rings)) if rings else (x_plane(frame, x), ())
        back = turned_over(expected[0]), tuple(sorted(least_start(ring[::-1]) for ring in expected[1]))
        for land in (expected, back):
            found = cut(body, land[0])
            self.assertEqual(found, land)
            self.assertTrue(is_plain(found) and is_land(found))

    def test_planes_that_go_through(self):
        for frame in ALL_FRAMES:
            for x in (HALF, Fraction(1, 3), Fraction(1, 10 ** 30)):
                self.check(frame, ones(BOX), x, ((0, 0), (2, 0), (2, 3), (0, 3)))
            third = Fraction(1, 3)
            self.check(frame, ones(TETRA), 1, ((0, 0), (4 * third, 0), (0, 2 * third)))
            square, hole = ((0, 0), (3, 0), (3, 3), (0, 3)), ((1, 1), (1, 2), (2, 2), (2, 1))
            self.check(frame, HEAPS["one within the other"][1], 3 * HALF, square, hole)
            self.check(frame, HEAPS["one within the other"][1], HALF, square)
            self.check(frame, HEAPS["overlap"][1], 3 * HALF, BENT, tuple((3 - y, 3 - z) for y, z in BENT))

    def test_planes_that_bear_walls(self):
        for frame in ALL_FRAMES:
            # A wall at which the body ends is no part of a cut, from either side.
            for walls in (ones(BOX), ones(TETRA)):
                self.check(frame, walls, 0)
            self.check(frame, ones(BOX), 1)
            # Where the body goes on beside the wall, only what goes on is cut.
            square, hole = ((0, 0), (3, 0), (3, 3), (0, 3)), ((1, 1), (1, 2), (2, 2), (2, 1))
            self.check(frame, HEAPS["one within the other"][1], 1, square, hole)
            self.check(frame, HEAPS["one within the other"][1], 2, square, hole)
            self.check(frame, HEAPS["overlap"][1], 1, BENT)
            self.check(frame, HEAPS["overlap"][1], 2, tuple((3 - y, 3 - z) for y, z in BENT))
            self.check(frame, HEAPS["along a part of a wall"][1], 1, square)
            self.check(frame, HEAPS["along an edge"][1], 1)
            self.check(frame, HEAPS["along a wall"][1], 1, ((0, 0), (1, 0), (1, 1), (0, 1)))

    def test_planes_that_bear_a_wall_on_part_of_the_cut(self):
        step = [ring for low, high in (((0, 0, 0), (2, 3, 1)), ((0, 0, 1), (1, 3, 2))) for ring in box_rings(low, high)]
        for frame in ALL_FRAMES:
            body = body_of(frame.heap(step))
            for turns in (1, -1):
                plane = x_plane(frame, 1, turns)
                ring = frame.ring(on_x(1, ((0, 0), (3, 0), (3, 1), (0, 1))[::turns])[0])
                ring = ring[::-1] if frame.is_mirrored else ring
                self.assertEqual(cut(body, plane), (plane, (least_start(ring),)))

    def test_planes_that_touch_at_an_edge_or_a_corner(self):
        for frame in ALL_FRAMES:
            body = frame.body(ones(BOX))
            for ring in (
                ((0, 0, 0), (0, 0, 1), (1, -1, 0)), ((0, 0, 0), (1, -1, 0), (0, 1, -1)),
                ((1, 2, 3), (1, 2, 0), (0, 3, 0)), ((1, 2, 3), (2, 1, 3), (1, 3, 2)),
            ):
                plane = frame.plane(ring)
                self.assertEqual(cut(body, plane), (plane, ()))
                self.assertEqual(cut(body, turned_over(plane)), (turned_over(plane), ()))

    def test_planes_that_miss(self):
        for frame in ALL_FRAMES:
            for walls in (ones(BOX), ones(TETRA), HEAPS["overlap"][1], NICKED):
                for x in (-1, 5, Fraction(-1, 10 ** 30)):
                    self.check(frame, walls, x)

    def test_through_edges_that_touch(self):
        for frame in ALL_FRAMES:
            # Through the edge in which the two holes touch, and through that of the nick.
            self.check(frame, HOLED, 2, ((0, 0), (1, 0), (1, 1), (0, 1)), ((3, 0), (4, 0), (4, 1), (3, 1)))
            self.check(frame, NICKED, 2, ((1, 0), (4, 0), (4, 1), (1, 1)))

    def test_of_the_body_without_points(self):
        for plane in ((0, 0, 1, 0), (-3, 1, 2, 7)):
            self.assertEqual(cut((), plane), (plane, ()))

    def test_written_out(self):
        cube = body_of(PLAIN.heap(box_rings((0, 0, 0), (2, 2, 2))))
        self.assertEqual(cut(cube, (1, 1, 1, -3)), ((1, 1, 1, -3), ((
            (0, 1, 2, 1), (1, 0, 2, 1), (2, 0, 1, 1), (2, 1, 0, 1), (1, 2, 0, 1), (0, 2, 1, 1)),)))
        self.assertEqual(cut(cube, (1, -1, 0, 0)), (
            (1, -1, 0, 0), (((0, 0, 0, 1), (2, 2, 0, 1), (2, 2, 2, 1), (0, 0, 2, 1)),)))
        self.assertEqual(cut(cube, (-2, 0, 0, 1)), (
            (-2, 0, 0, 1), (((1, 0, 0, 2), (1, 0, 4, 2), (1, 4, 4, 2), (1, 4, 0, 2)),)))

    def test_what_lies_before_and_behind(self):
        chance = random.Random(151)
        for k in range(30):
            frame = FRAMES[k % len(FRAMES)]
            body = body_of(frame.heap(some_solid(chance) + some_solid(chance) + some_solid(chance)))
            if not body:
                continue
            for plane in (chance.choice(body)[0], turned_over(chance.choice(body)[0]), some_plane(chance, frame)):
                found = cut(body, plane)
                before, behind = land_before(body, plane), land_over(land_before(body, turned_over(plane)))
                self.assertEqual(found, land_common(before, behind))
                self.assertEqual(land_over(found), cut(body, turned_over(plane)))
                if len(found[1]) < 4:
                    self.assertEqual(land_by_hand(*found), found)

    def test_point_by_point(self):
        chance = random.Random(152)
        for k in range(30):
            frame = FRAMES[k % len(FRAMES)]
            body = body_of(frame.heap(some_solid(chance) + some_solid(chance) + some_solid(chance)))
            plane = some_plane(chance, frame)
            if not body or plane in dict(body) or turned_over(plane) in dict(body):
                continue
            found = cut(body, plane)
            for n in range(6):
                # A point on no wall lies within the cut just where it lies within the body.
                p = spot_in(chance, plane, rings_of(body))
                if place(body, p):
                    self.assertEqual(land_place(found, p), place(body, p))
                    self.assertEqual(land_place(found, p), 1 if is_within(rings_of(body), measures(p)) else -1)


class Parts(unittest.TestCase):
    def check(self, frame, walls, x, before, behind):
        body = frame.body(walls)
        plane = x_plane(frame, x)
        for found, expected in ((part(body, plane), before), (part(body, turned_over(plane)), behind)):
            self.assertEqual(found, frame.body(expected))
            self.assertTrue(is_plain(found) and type(found) is tuple)

    def test_told_ones(self):
        for frame in ALL_FRAMES:
            self.check(frame, ones(BOX), HALF, ones(box_rings((HALF, 0, 0), (1, 2, 3))),
                       ones(box_rings((0, 0, 0), (HALF, 2, 3))))
            # In front of it, behind it, and with a wall in it.
            for x in (-1, 0):
                self.check(frame, ones(BOX), x, ones(BOX), [])
            for x in (1, 2):
                self.check(frame, ones(BOX), x, [], ones(BOX))
            third = Fraction(1, 3)
            self.check(frame, ones(TETRA), 1, ones(tetra_rings((1, 0, 0), (3, 0, 0), (1, 4 * third, 0), (1, 0, 2 * third))), [
                [((0, 0, 0), (0, 2, 0), (1, 4 * third, 0), (1, 0, 0))], [((0, 0, 0), (1, 0, 0), (1, 0, 2 * third), (0, 0, 1))],
                [((0, 0, 0), (0, 0, 1), (0, 2, 0))], [((1, 0, 0), (1, 4 * third, 0), (1, 0, 2 * third))],
                [((0, 2, 0), (0, 0, 1), (1, 0, 2 * third), (1, 4 * third, 0))],
            ])

    def test_of_a_hollow(self):
        square, hole = ((0, 0), (3, 0), (3, 3), (0, 3)), ((1, 1), (1, 2), (2, 2), (2, 1))
        inner = turned_inside(box_rings((3 * HALF, 1, 1), (2, 2, 2)))
        outer = box_rings((3 * HALF, 0, 0), (3, 3, 3))
        far = turned_inside(box_rings((1, 1, 1), (3 * HALF, 2, 2)))
        near = box_rings((0, 0, 0), (3 * HALF, 3, 3))
        for frame in ALL_FRAMES:
            self.check(
                frame, HEAPS["one within the other"][1], 3 * HALF,
                ones(outer[1:] + inner[1:]) + [on_x(3 * HALF, square[::-1], hole[::-1])],
                ones(near[:1] + near[2:] + far[:1] + far[2:]) + [on_x(3 * HALF, square, hole)])
            self.check(
                frame, HEAPS["one within the other"][1], 1,
                ones(box_rings((1, 0, 0), (3, 3, 3))[1:] + turned_inside(cube_rings(1, 1, 1))[1:])
                + [on_x(1, square[::-1], hole[::-1])],
                ones(box_rings((0, 0, 0), (1, 3, 3))))

    def test_walls_on_both_sides_in_the_plane(self):
        step = [ring for low, high in (((0, 0, 0), (2, 3, 1)), ((0, 0, 1), (1, 3, 2))) for ring in box_rings(low, high)]
        for frame in ALL_FRAMES:
            body = body_of(frame.heap(step))
            self.assertEqual(part(body, x_plane(frame, 1)), frame.body(ones(box_rings((1, 0, 0), (2, 3, 1)))))
            self.assertEqual(part(body, x_plane(frame, 1, -1)), frame.body(ones(box_rings((0, 0, 0), (1, 3, 2)))))
            edge = frame.body(HEAPS["along an edge"][1])
            self.assertEqual(part(edge, x_plane(frame, 1)), frame.body(ones(cube_rings(1, 1, 0))))
            self.assertEqual(part(edge, x_plane(frame, 1, -1)), frame.body(ones(CUBE)))
            overlap = frame.body(HEAPS["overlap"][1])
            self.assertEqual(part(overlap, x_plane(frame, 2)), frame.body(ones(box_rings((2, 1, 1), (3, 3, 3)))))
            self.assertEqual(part(overlap, x_plane(frame, 1, -1)), frame.body(ones(box_rings((0, 0, 0), (1, 2, 2)))))

    def test_of_the_body_without_points(self):
        self.assertEqual(part((), (0, 0, 1, 0)), ())
        self.assertEqual(part((), (-3, 1, 2, 7)), ())

    def test_both_parts_come_to_the_body(self):
        chance = random.Random(153)
        for k in range(40):
            frame = FRAMES[k % len(FRAMES)]
            body = body_of(frame.heap(some_solid(chance) + some_solid(chance) + some_solid(chance)))
            planes = [some_plane(chance, frame)] + [plane for plane, rings in body][:1]
            for plane in planes:
                before, behind = part(body, plane), part(body, turned_over(plane))
                self.assertTrue(is_body(before) and is_body(behind))
                self.assertEqual(joined(before, behind), body)
                self.assertEqual(common(before, behind), ())
                self.assertEqual(volume_of(before, behind), volume_of(body))
                self.assertTrue(all(dotted(plane, p) >= 0 for ring in rings_of(before) for p in ring))

    def test_point_by_point(self):
        chance = random.Random(154)
        for k in range(30):
            frame = FRAMES[k % len(FRAMES)]
            body = body_of(frame.heap(some_solid(chance) + some_solid(chance)))
            plane = some_plane(chance, frame)
            found = part(body, plane)
            for spot in some_spots(chance, 8, 5):
                p = frame.at(*spot)
                if dotted(plane, p):
                    expected = dotted(plane, p) > 0 and is_within(rings_of(body), measures(p))
                    self.assertEqual(is_within(rings_of(found), measures(p)), expected)


class Diced(unittest.TestCase):
    def test_by_no_planes_and_of_no_points(self):
        body = body_of(PLAIN.heap(TETRA))
        for planes in ([], ()):
            self.assertEqual(diced(body, planes), (body,))
            self.assertEqual(diced((), planes), ())
        self.assertEqual(diced((), [(1, 0, 0, 0), (0, 1, 0, -1)]), ())

    def test_order_of_the_pieces(self):
        for frame in ALL_FRAMES:
            body = frame.body(ones(cube_rings(0, 0, 0, 2)))
            x, y, z = (frame.plane(ring) for ring in (
                ((1, 0, 0), (1, 1, 0), (1, 0, 1)), ((0, 1, 0), (0, 1, 1), (1, 1, 0)), ((0, 0, 1), (1, 0, 1), (0, 1, 1))))

            def cubes(*corners):
                return tuple(frame.body(ones(cube_rings(*corner))) for corner in corners)

            all_eight = [(a, b, c) for a in (1, 0) for b in (1, 0) for c in (1, 0)]
            self.assertEqual(diced(body, [x, y, z]), cubes(*all_eight))
            self.assertEqual(diced(body, (z, x, y)), cubes(*[(a, b, c) for c in (1, 0) for a in (1, 0) for b in (1, 0)]))
            back = tuple(-n for n in x)
            self.assertEqual(diced(body, [back, y, z]), cubes(*[(a, b, c) for a in (0, 1) for b in (1, 0) for c in (1, 0)]))
            halves = tuple(frame.body(ones(box_rings((k, 0, 0), (k + 1, 2, 2)))) for k in (1, 0))
            self.assertEqual(diced(body, [x]), halves)
            self.assertEqual(diced(body, [back]), halves[::-1])

    def test_a_plane_twice_and_the_same_turned_over(self):
        for frame in FRAMES:
            body = frame.body(HEAPS["one within the other"][1])
            plane = x_plane(frame, 3 * HALF)
            halves = (part(body, plane), part(body, turned_over(plane)))
            for planes in ([plane], [plane, plane], [plane, turned_over(plane)], [plane] * 8):
                self.assertEqual(diced(body, planes), halves)
            self.assertEqual(diced(body, [turned_over(plane), plane]), halves[::-1])

    def test_planes_that_miss(self):
        for frame in FRAMES:
            body = frame.body(ones(BOX))
            planes = [x_plane(frame, x, turns) for x in (-1, 0, 1, 5) for turns in (1, -1)]
            self.assertEqual(diced(body, planes), (body,))
            self.assertEqual(diced(body, planes[:3] + [x_plane(frame, HALF)]), (
                frame.body(ones(box_rings((HALF, 0, 0), (1, 2, 3)))), frame.body(ones(box_rings((0, 0, 0), (HALF, 2, 3))))))

    def test_eight_planes(self):
        chance = random.Random(155)
        frame = FRAMES[2]
        body = body_of(frame.heap(cube_rings(0, 0, 0, 6) + cube_rings(1, 1, 1, 3) + tetra_rings(
            (0, 0, 0), (5, 1, 2), (1, 6, 2), (2, 3, 7))))
        planes = [some_plane(chance, frame) for n in range(8)]
        pieces = diced(body, planes)
        self.assertGreater(len(pieces), 20)
        self.assertEqual(volume_of(*pieces), volume_of(body))
        self.assertEqual(joined_all(pieces), body)
        for n in range(2):
            mixed = list(pieces)
            chance.shuffle(mixed)
            self.assertEqual(joined_all(mixed), body)
        for one, other in zip(pieces, pieces[1:]):
            self.assertEqual(common(one, other), ())

    def test_step_by_step(self):
        chance = random.Random(156)
        for k in range(12):
            frame = FRAMES[k % len(FRAMES)]
            body = body_of(frame.heap(some_solid(chance) + some_solid(chance)))
            planes = [some_plane(chance, frame) for n in range(3)] + [plane for plane, rings in body][:1]
            handed = list(planes)
            found = diced(body, handed)
            self.assertEqual(handed, planes)
            self.assertEqual(found, diced(body, tuple(planes)))
            expected = [body] if body else []
            for plane in planes:
                turns = [plane, turned_over(plane)]
                expected = [made for piece in expected for made in (part(piece, turn) for turn in turns) if made]
            self.assertEqual(found, tuple(expected))
            self.assertTrue(all(found) and is_plain(found))
            self.assertEqual(volume_of(*found), volume_of(body))
            mixed = list(found)
            chance.shuffle(mixed)
            made = ()
            for piece in mixed:
                self.assertEqual(common(made, piece), ())
                made = joined(piece, made)
            self.assertEqual(made, body)
            # In another order the planes make the same pieces.
            self.assertEqual(sorted(diced(body, planes[::-1])), sorted(found))


class JoinedAll(unittest.TestCase):
    def test_of_none_and_of_one(self):
        body = body_of(PLAIN.heap(TETRA))
        for bodies in ([], (), [()], ((), ())):
            self.assertEqual(joined_all(bodies), ())
        for bodies in ([body], (body,), [body, body], (body, body, body), [(), body], [body, ()], ((), body, (), body)):
            self.assertEqual(joined_all(bodies), body)

    def test_of_several(self):
        for frame in FRAMES:
            corners = [(x, y, z) for x in (0, 1) for y in (0, 1) for z in (0, 1)]
            cubes = [frame.body(ones(cube_rings(*corner))) for corner in corners]
            whole = frame.body(ones(cube_rings(0, 0, 0, 2)))
            self.assertEqual(joined_all(cubes), whole)
            self.assertEqual(joined_all(tuple(cubes[::-1]) + ((),)), whole)
            self.assertEqual(joined_all(cubes + cubes), whole)
            self.assertEqual(joined_all(cubes[:1] + cubes[7:]), frame.body(HEAPS["at a corner"][1]))
            for some in permutations(cubes[:4], 3):
                self.assertEqual(joined_all(some), joined(joined(some[0], some[1]), some[2]))

    def test_of_bodies_that_overlap(self):
        chance = random.Random(157)
        for k in range(12):
            frame = FRAMES[k % len(FRAMES)]
            bodies = [body_of(frame.heap(some_solid(chance))) for n in range(5)]
            handed = list(bodies)
            found = joined_all(handed)
            self.assertEqual(handed, bodies)
            self.assertTrue(is_plain(found) and is_body(found))
            made = ()
            for body in bodies[::-1]:
                made = joined(made, body)
            self.assertEqual(found, made)
            for spot in some_spots(chance, 8, 5):
                expected = any(is_within(rings_of(body), frame.spot(*spot)) for body in bodies)
                self.assertEqual(is_within(rings_of(found), frame.spot(*spot)), expected)

    def test_of_sixty(self):
        bodies = [PLAIN.body(ones(box_rings((2 * k, 0, 0), (2 * k + 3, 1, 1)))) for k in range(60)]
        self.assertEqual(joined_all(bodies), PLAIN.body(ones(box_rings((0, 0, 0), (121, 1, 1)))))

    def test_altering_a_list_alters_no_answer(self):
        bodies = [PLAIN.body(ones(cube_rings(k, 0, 0))) for k in range(3)]
        planes = [(2, 0, 0, -1), (2, 0, 0, -3)]
        slab = joined_all(bodies)
        pieces = diced(slab, planes)
        bodies.pop()
        planes.clear()
        self.assertEqual(slab, PLAIN.body(ones(box_rings((0, 0, 0), (3, 1, 1)))))
        self.assertEqual(len(pieces), 3)
        self.assertEqual(joined_all(bodies), PLAIN.body(ones(box_rings((0, 0, 0), (2, 1, 1)))))
        self.assertEqual(diced(slab, planes), (slab,))


if __name__ == "__main__":
    unittest.main()
