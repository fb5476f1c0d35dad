"""The walls that a half line meets: [38], [39], and [5] as far as it speaks of half lines."""

import random
import unittest
from fractions import Fraction

from solidyard.bodies import body_of
from solidyard.errors import MeetsEdge, NoWay, OnWall
from solidyard.volumes import place
from solidyard.ways import beyond
from tests.helper import (
    BOX, FRAMES, GREAT, GREAT_FRAMES, HEAPS, HOLED, HUGE, LIMIT, NICKED, PLAIN, TETRA, box_rings, crossing_wedges,
    cube_rings, dotted, is_numbers, is_plain, measures, minus, on_wall_by_hand, ones, place_by_hand, point_at,
    some_solid, some_spots, tetra_rings, whole,
)

ALL_FRAMES = FRAMES + GREAT_FRAMES
HALF = Fraction(1, 2)
BIG = cube_rings(0, 0, 0, 3)


def way_in(frame, *steps):
    """The way in which steps in a frame lead, as three whole numbers."""
    return whole(minus(frame.spot(*steps), frame.start))


def met_by_hand(body, p, way):
    """The planes that a half line meets, or None where it holds an edge point."""
    start, met = measures(p), []
    for plane, rings in body:
        slope, rise = dotted(plane, way), dotted(plane, p)
        if slope == 0:
            if rise == 0 and any(meets_side(start, way, *ends) for ends in sides_by_hand(rings)):
                return None
            continue
        step = Fraction(-rise, p[3] * slope)
        if step > 0:
            where = place_by_hand(plane, rings, point_at(*(a + step * b for a, b in zip(start, way))))
            if where == 0:
                return None
            if where == 1:
                met.append((step, plane))
    met.sort()
    if any(one[0] == other[0] for one, other in zip(met, met[1:])):
        return None
    return tuple(plane for step, plane in met)


def sides_by_hand(rings):
    return [(measures(p), measures(q)) for ring in rings for p, q in zip(ring, ring[1:] + ring[:1])]


def meets_side(start, way, p, q):
    """True where a half line in the plane of a side meets it; the start is not on it."""
    # Flat on two axes: t times the way is the side's point at share s.
    along = minus(q, p)
    for i, j in ((0, 1), (1, 2), (2, 0)):
        slant = way[i] * along[j] - way[j] * along[i]
        if slant:
            gap = minus(p, start)
            step = (gap[i] * along[j] - gap[j] * along[i]) / Fraction(slant)
            share = (gap[i] * way[j] - gap[j] * way[i]) / Fraction(slant)
            return step > 0 and 0 <= share <= 1
    ahead = [dotted(minus(end, start), way) > 0 for end in (p, q)]
    gap = minus(p, start)
    return all(gap[i] * way[j] == gap[j] * way[i] for i, j in ((0, 1), (1, 2), (2, 0))) and any(ahead)


class Beyond(unittest.TestCase):
    def check(self, frame, walls, spot, steps, rings):
        """The half line meets the walls of these rings of triples, in their order."""
        body = frame.body(walls)
        expected = tuple(frame.plane(ring) for ring in rings)
        way = way_in(frame, *steps)
        for times in (1, 2, 7, GREAT):
            found = beyond(body, frame.at(*spot), tuple(times * n for n in way))
            self.assertEqual(found, expected)
            self.assertTrue(type(found) is tuple and all(is_numbers(plane, 4) for plane in found))

    def test_written_out(self):
        box = body_of(PLAIN.heap(BOX))
        self.assertEqual(beyond(box, (1, 2, 2, 2), (1, 0, 0)), ((1, 0, 0, -1),))
        self.assertEqual(beyond(box, (1, 2, 2, 2), (-5, 0, 0)), ((-1, 0, 0, 0),))
        self.assertEqual(beyond(box, (1, 2, 2, 2), (0, 0, 2)), ((0, 0, 1, -3),))
        self.assertEqual(beyond(box, (-2, 2, 2, 2), (3, 0, 0)), ((-1, 0, 0, 0), (1, 0, 0, -1)))
        self.assertEqual(beyond(box, (4, 2, 2, 2), (-1, 0, 0)), ((1, 0, 0, -1), (-1, 0, 0, 0)))
        self.assertEqual(beyond(box, (-2, 2, 2, 2), (-1, 0, 0)), ())
        self.assertEqual(beyond(box, (1, 2, 2, 2), (1, 1, 3)), ((1, 0, 0, -1),))
        self.assertEqual(beyond(box, (1, 2, 2, 2), (1, 1, 13)), ((0, 0, 1, -3),))

    def test_from_within_and_without(self):
        for frame in ALL_FRAMES:
            for axis in range(3):
                ahead = [0, 0, 0]
                ahead[axis] = 1
                back = [-n for n in ahead]
                low, high = BOX[2 * axis], BOX[2 * axis + 1]
                spot = [Fraction(1, 3), Fraction(1, 5), Fraction(1, 7)]
                self.check(frame, ones(BOX), spot, ahead, [high])
                self.check(frame, ones(BOX), spot, back, [low])
                spot[axis] = -4
                self.check(frame, ones(BOX), spot, ahead, [low, high])
                self.check(frame, ones(BOX), spot, back, [])
                spot[axis] = 9
                self.check(frame, ones(BOX), spot, ahead, [])
                self.check(frame, ones(BOX), spot, back, [high, low])

    def test_through_a_hollow(self):
        rings = HEAPS["one within the other"][1]
        low, high, inner, far = BIG[0], BIG[1], cube_rings(1, 1, 1)[0][::-1], cube_rings(1, 1, 1)[1][::-1]
        for frame in ALL_FRAMES:
            spot = (-1, Fraction(4, 3), Fraction(6, 5))
            self.check(frame, rings, spot, (1, 0, 0), [low, inner, far, high])
            self.check(frame, rings, (HALF,) + spot[1:], (1, 0, 0), [inner, far, high])
            self.check(frame, rings, (3 * HALF,) + spot[1:], (1, 0, 0), [far, high])
            self.check(frame, rings, (3 * HALF,) + spot[1:], (-1, 0, 0), [inner, low])
            self.check(frame, rings, (5 * HALF,) + spot[1:], (1, 0, 0), [high])
            self.check(frame, rings, (5 * HALF,) + spot[1:], (-1, 0, 0), [far, inner, low])
            self.check(frame, rings, (7 * HALF,) + spot[1:], (1, 0, 0), [])

    def test_many_walls_one_behind_the_other(self):
        for frame in FRAMES:
            slabs = [box_rings((2 * k, 0, 0), (2 * k + 1, 5, 5)) for k in range(12)]
            body = body_of(frame.heap([ring for rings in slabs for ring in rings]))
            way = way_in(frame, 100, 3, 1)
            expected = tuple(frame.plane(rings[k]) for rings in slabs for k in (0, 1))
            self.assertEqual(beyond(body, frame.at(-1, 1, 1), way), expected)
            back = tuple(-n for n in way_in(frame, 1, 0, 0))
            self.assertEqual(beyond(body, frame.at(50, 1, 1), back), expected[::-1])
            self.assertEqual(beyond(body, frame.at(9 * HALF, 1, 1), back), expected[4::-1])

    def test_one_plane_met_by_several_walls_is_met_once(self):
        # Two walls in one plane, of which the half line meets the one or the other or none.
        for frame in ALL_FRAMES:
            walls = HEAPS["apart"][1]
            self.check(frame, walls, (HALF, -1, HALF), (0, 1, 0), [cube_rings(0, 0, 0)[2], cube_rings(0, 0, 0)[3]])
            self.check(frame, walls, (11 * HALF, -1, 15 * HALF), (0, 1, 0), [cube_rings(0, 0, 0)[2], cube_rings(0, 0, 0)[3]])
            self.check(frame, walls, (3, -1, 3), (0, 1, 0), [])

    def test_through_a_hole(self):
        for frame in ALL_FRAMES:
            self.check(frame, HOLED, (3 * HALF, Fraction(4, 3), 5), (0, 0, -1), [])
            self.check(frame, NICKED, (2, HALF, 5), (0, 0, -1), [])
            top, bottom = ((0, 0, 1), (4, 0, 1), (4, 4, 1)), ((0, 0, 0), (4, 4, 0), (4, 0, 0))
            self.check(frame, HOLED, (3 * HALF, 5 * HALF, 5), (0, 0, -1), [top, bottom])
            self.check(frame, NICKED, (1, HALF, 5), (0, 0, -1), [top, bottom])

    def test_of_great_numbers(self):
        for great in (GREAT, HUGE, LIMIT):
            body = body_of(PLAIN.heap(box_rings((great, 0, 0), (great + 1, 2, 3))))
            self.assertEqual(beyond(body, (0, 1, 1, 1), (great, 0, 0)), ((-1, 0, 0, great), (1, 0, 0, -great - 1)))
            with self.assertRaises(MeetsEdge):
                beyond(body, (0, 1, 1, 1), (great, 1, 0))
            self.assertEqual(beyond(body, (0, 1, 1, 1), (2 * great, 1, 0)), ((-1, 0, 0, great), (1, 0, 0, -great - 1)))
            self.assertEqual(beyond(body, (2 * great + 1, 2, 2, 2), (1, great, 2)), ((0, 1, 0, -2),))
            self.assertEqual(beyond(body, (2 * great + 1, 2, 2, 2), (great, 1, -2)), ((1, 0, 0, -great - 1),))
            self.assertEqual(beyond(body, (2 * great + 1, 2, 2, 2), (-great, great, 0)), ((-1, 0, 0, great),))

    def test_of_the_body_without_points(self):
        self.assertEqual(beyond((), (0, 0, 0, 1), (1, 2, 3)), ())
        self.assertEqual(beyond((), (1, 2, 3, 4), (0, 0, -1)), ())

    def test_planes_by_turns_and_as_many_as_the_place_tells(self):
        chance = random.Random(141)
        told = 0
        for k in range(40):
            frame = FRAMES[k % len(FRAMES)]
            body = body_of(frame.heap(some_solid(chance) + some_solid(chance) + some_solid(chance)))
            for spot in some_spots(chance, 8, 4):
                p = frame.at(*spot)
                way = (chance.randint(-99, 99), chance.randint(-99, 99), chance.randint(1, 99))
                found = beyond(body, p, way)
                self.assertEqual(found, met_by_hand(body, p, way))
                self.assertTrue(is_plain(found))
                self.assertEqual(len(found) % 2 == 1, place(body, p) == 1)
                for n, plane in enumerate(found[::-1]):
                    self.assertTrue((dotted(plane[:3], way) > 0) == (n % 2 == 0))
                    self.assertIn(plane, dict(body))
                told += len(found)
        self.assertGreater(told, 80)

    def test_point_by_point_with_edges(self):
        chance = random.Random(142)
        refused = 0
        for k in range(60):
            body = body_of(PLAIN.heap(some_solid(chance) + some_solid(chance)))
            for n in range(20):
                p = point_at(*(Fraction(chance.randint(-1, 13), 2) for k in range(3)))
                way = tuple(chance.randint(-1, 1) for k in range(3))
                if way == (0, 0, 0) or on_wall_by_hand(body, p):
                    continue
                expected = met_by_hand(body, p, way)
                if expected is None:
                    refused += 1
                    with self.assertRaises(MeetsEdge):
                        beyond(body, p, way)
                else:
                    self.assertEqual(beyond(body, p, way), expected)
        self.assertGreater(refused, 40)


class Refused(unittest.TestCase):
    def refuse(self, kind, frame, walls, spot, steps):
        way = (0, 0, 0) if steps == (0, 0, 0) else way_in(frame, *steps)
        with self.assertRaises(kind) as caught:
            beyond(frame.body(walls), frame.at(*spot), way)
        self.assertIs(type(caught.exception), kind)

    def test_a_way_of_noughts(self):
        for frame in ALL_FRAMES:
            # Ahead of OnWall, too: on a wall, on an edge, at a corner.
            for spot in ((HALF, 1, 1), (7, 7, 7), (0, 1, 1), (0, 0, 1), (0, 0, 0)):
                self.refuse(NoWay, frame, ones(BOX), spot, (0, 0, 0))
            self.refuse(NoWay, frame, [], (0, 0, 0), (0, 0, 0))

    def test_a_point_on_a_wall(self):
        for frame in ALL_FRAMES:
            # Ahead of MeetsEdge, too: along the wall, along the edge, out of the corner.
            for spot in ((0, 1, 1), (HALF, 2, 1), (0, 0, 1), (1, 2, 1), (0, 0, 0), (1, 2, 3)):
                for steps in ((1, 0, 0), (-1, 0, 0), (0, 1, 0), (0, 0, -1), (1, 2, 3), (-3, 2, 1)):
                    self.refuse(OnWall, frame, ones(BOX), spot, steps)
            self.refuse(OnWall, frame, HEAPS["one within the other"][1], (1, 3 * HALF, 3 * HALF), (1, 0, 0))
            self.refuse(OnWall, frame, NICKED, (2, 0, HALF), (0, -1, 0))

    def test_a_half_line_that_meets_an_edge(self):
        for frame in ALL_FRAMES:
            for spot, steps in (
                ((-1, -2, -3), (1, 2, 3)), ((-1, 0, 0), (1, 0, 0)), ((HALF, 1, 1), (HALF, 1, 2)),
                ((HALF, 1, 3 * HALF), (HALF, 1, 0)), ((-1, -1, 1), (1, 1, 0)), ((HALF, 1, 1), (1, 2, 1)),
                ((0, 0, -1), (0, 0, 1)), ((1, 2, 9), (0, 0, -1)), ((0, 5, 3), (0, -1, 0)),
                ((0, -1, 1), (0, 1, 0)), ((HALF, 5, 3), (0, -1, 0)), ((1, -1, -1), (0, 3, 2)), ((1, -1, 1), (0, 1, -1)),
            ):
                self.refuse(MeetsEdge, frame, ones(BOX), spot, steps)
            # A half line that only touches at an edge or a corner meets it as well.
            self.refuse(MeetsEdge, frame, ones(BOX), (-1, 1, 1), (1, -1, 0))
            self.refuse(MeetsEdge, frame, ones(BOX), (-1, 1, 0), (1, -1, 0))
            self.refuse(MeetsEdge, frame, ones(TETRA), (4, 1, 0), (-1, -1, 0))

    def test_edges_behind_a_wall_count(self):
        for frame in ALL_FRAMES:
            walls = HEAPS["one within the other"][1]
            self.refuse(MeetsEdge, frame, walls, (HALF, 3 * HALF, 1), (1, 0, 0))
            self.refuse(MeetsEdge, frame, walls, (-1, 3 * HALF, 1), (1, 0, 0))
            self.refuse(MeetsEdge, frame, walls, (HALF, HALF, HALF), (1, 1, 1))
            self.refuse(MeetsEdge, frame, walls, (3 * HALF, 3 * HALF, 3 * HALF), (1, 1, 0))

    def test_what_lies_behind_the_point_does_not_count(self):
        for frame in ALL_FRAMES:
            body = frame.body(ones(BOX))
            for spot, steps in (
                ((-1, -2, -3), (-1, -2, -3)), ((-1, 0, 0), (-1, 0, 0)), ((0, 0, -1), (0, 0, -1)), ((0, -1, 1), (0, -1, 0)),
                ((0, -1, 1), (0, -1, 5)), ((2, 3, 3), (1, 1, 0)), ((0, 5, 3), (0, 1, 0)),
            ):
                self.assertEqual(beyond(body, frame.at(*spot), way_in(frame, *steps)), ())
            # From within a hollow an edge lies behind, and ahead a wall is met.
            spot, way = frame.at(HALF, HALF, HALF), way_in(frame, -10, -9, -8)
            hollow = frame.body(HEAPS["one within the other"][1])
            self.assertEqual(beyond(hollow, spot, way), (frame.plane(BIG[0]),))

    def test_along_a_plane_of_a_wall_but_past_it(self):
        for frame in ALL_FRAMES:
            body = frame.body(ones(BOX))
            for spot, steps in (((0, -1, -1), (0, 1, -1)), ((0, -1, 4), (0, 1, 0)), ((-1, -1, 3), (1, 0, 0))):
                self.assertEqual(beyond(body, frame.at(*spot), way_in(frame, *steps)), ())
            # In the plane of a hollow's wall, but no further than the big cube's own wall.
            hollow = frame.body(HEAPS["one within the other"][1])
            found = beyond(hollow, frame.at(1, HALF, HALF), way_in(frame, 0, -3, -1))
            self.assertEqual(found, (frame.plane(BIG[2]),))

    def test_a_corner_amid_an_edge_or_a_wall_of_another_part(self):
        for frame in FRAMES:
            at_edge = ones(cube_rings(0, 0, 0, 2) + tetra_rings((2, 2, 1), (4, 3, 0), (3, 4, 0), (4, 4, 2)))
            self.refuse(MeetsEdge, frame, at_edge, (1, 1, 1), (1, 1, 0))
            at_wall = ones(cube_rings(0, 0, 0, 2) + tetra_rings((2, 1, 1), (4, 1, 0), (4, 2, 0), (4, 2, 2)))
            self.refuse(MeetsEdge, frame, at_wall, (1, 1, 1), (1, 0, 0))

    def test_walls_that_go_through_one_another(self):
        for frame in FRAMES:
            body = body_of(frame.heap(crossing_wedges()))
            # The three walls along the line x = y = 0 have no side there.
            self.assertEqual(len(body), 8)
            for x, y in ((0, -1), (0, 1), (1, 1), (-3, 1), (-2, 5)):
                with self.assertRaises(MeetsEdge):
                    beyond(body, frame.at(x, y, HALF), way_in(frame, -x, -y, 0))
            met = beyond(body, frame.at(0, -1, HALF), way_in(frame, 2, 10, 0))
            self.assertEqual(len(met), 3)


if __name__ == "__main__":
    unittest.main()
