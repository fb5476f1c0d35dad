"""Heaps and bodies: [26] to [30]."""

import copy
import random
import unittest
from fractions import Fraction
from itertools import permutations, product

from solidyard.bodies import body_of, heap_of, is_body
from solidyard.errors import NotClosed, NotFlat, YardError
from solidyard.lands import land_place
from tests.helper import (
    BOX, CUBE, FRAMES, GREAT, GREAT_FRAMES, HEAPS, HUGE, PLAIN, TETRA, WAYS, box_rings, cube_rings, in_box, is_plain,
    is_wall, is_within, land_by_hand, measures, meets_land, point_at, some_points, some_solid, some_spots, spot_in,
)

ALL_FRAMES = FRAMES + GREAT_FRAMES
HALF = Fraction(1, 2)


def all_orders(rings):
    """A heap in some orders, with its rings begun elsewhere and turned round."""
    yield rings[::-1]
    yield [ring[::-1] for ring in rings]
    yield [ring[1:] + ring[:1] for ring in rings]
    yield [ring[::-1] if k % 2 else ring[2:] + ring[:2] for k, ring in enumerate(rings)]
    yield rings[1::2] + rings[0::2]


class Of(unittest.TestCase):
    def check(self, frame, rings, walls):
        found = body_of(frame.heap(rings))
        self.assertEqual(found, frame.body(walls))
        self.assertTrue(is_plain(found) and type(found) is tuple)

    def test_written_out(self):
        box = (
            ((-1, 0, 0, 0), (((0, 0, 0, 1), (0, 0, 3, 1), (0, 2, 3, 1), (0, 2, 0, 1)),)),
            ((0, -1, 0, 0), (((0, 0, 0, 1), (1, 0, 0, 1), (1, 0, 3, 1), (0, 0, 3, 1)),)),
            ((0, 0, -1, 0), (((0, 0, 0, 1), (0, 2, 0, 1), (1, 2, 0, 1), (1, 0, 0, 1)),)),
            ((0, 0, 1, -3), (((0, 0, 3, 1), (1, 0, 3, 1), (1, 2, 3, 1), (0, 2, 3, 1)),)),
            ((0, 1, 0, -2), (((0, 2, 0, 1), (0, 2, 3, 1), (1, 2, 3, 1), (1, 2, 0, 1)),)),
            ((1, 0, 0, -1), (((1, 0, 0, 1), (1, 2, 0, 1), (1, 2, 3, 1), (1, 0, 3, 1)),)),
        )
        self.assertEqual(body_of(PLAIN.heap(BOX)), box)
        self.assertEqual(PLAIN.body([[ring] for ring in BOX]), box)
        tetrahedron = (
            ((-1, 0, 0, 0), (((0, 0, 0, 1), (0, 0, 1, 1), (0, 2, 0, 1)),)),
            ((0, -1, 0, 0), (((0, 0, 0, 1), (3, 0, 0, 1), (0, 0, 1, 1)),)),
            ((0, 0, -1, 0), (((0, 0, 0, 1), (0, 2, 0, 1), (3, 0, 0, 1)),)),
            ((2, 3, 6, -6), (((0, 0, 1, 1), (3, 0, 0, 1), (0, 2, 0, 1)),)),
        )
        self.assertEqual(body_of(PLAIN.heap(TETRA)), tetrahedron)
        halves = [[(0, 0, 0, 1), (1, 0, 0, 2), (0, 1, 0, 2)], [(0, 0, 0, 1), (1, 0, 0, 2), (0, 0, 1, 2)],
                  [(0, 0, 0, 1), (0, 1, 0, 2), (0, 0, 1, 2)], [(1, 0, 0, 2), (0, 1, 0, 2), (0, 0, 1, 2)]]
        self.assertEqual(body_of(halves)[3], ((2, 2, 2, -1), (((0, 0, 1, 2), (1, 0, 0, 2), (0, 1, 0, 2)),)))

    def test_told_ones(self):
        for frame in ALL_FRAMES:
            for name, (rings, walls) in HEAPS.items():
                with self.subTest(name):
                    self.check(frame, rings, walls)

    def test_walls_of_one_plane(self):
        edge = body_of(PLAIN.heap(HEAPS["along an edge"][0]))
        walls = dict(edge)
        self.assertEqual(walls[(1, 0, 0, -1)], (((1, 0, 0, 1), (1, 1, 0, 1), (1, 1, 1, 1), (1, 0, 1, 1)),))
        self.assertEqual(walls[(-1, 0, 0, 1)], (((1, 1, 0, 1), (1, 1, 1, 1), (1, 2, 1, 1), (1, 2, 0, 1)),))
        self.assertEqual(walls[(0, 0, 1, -1)], (
            ((0, 0, 1, 1), (1, 0, 1, 1), (1, 1, 1, 1), (0, 1, 1, 1)),
            ((1, 1, 1, 1), (2, 1, 1, 1), (2, 2, 1, 1), (1, 2, 1, 1))))
        part = dict(body_of(PLAIN.heap(HEAPS["along a part of a wall"][0])))
        self.assertEqual(part[(0, 0, 1, -3)], (
            ((0, 0, 3, 1), (3, 0, 3, 1), (3, 3, 3, 1), (0, 3, 3, 1)),
            ((1, 1, 3, 1), (1, 2, 3, 1), (2, 2, 3, 1), (2, 1, 3, 1))))
        self.assertNotIn((0, 0, -1, 3), part)

    def test_either_way_round_begun_anywhere_in_any_order(self):
        for frame in FRAMES[:3]:
            for name, (rings, walls) in HEAPS.items():
                for order in all_orders(rings):
                    self.check(frame, order, walls)

    def test_rings_several_times(self):
        for frame in FRAMES:
            for rings, walls in (HEAPS["box"], HEAPS["tetrahedron"], HEAPS["along an edge"]):
                for at in range(len(rings)):
                    self.check(frame, rings + [rings[at], rings[at][::-1]], walls)
                self.check(frame, rings * 3, walls)
                self.check(frame, rings * 2, [])
                self.check(frame, rings * 4, [])
                self.check(frame, [ring + ring + ring for ring in rings], walls)

    def test_sides_cut_into_several_rings(self):
        for frame in ALL_FRAMES:
            for at, ring in enumerate(BOX):
                p, q, r, s = ring
                amid = tuple(a + Fraction(b - a, 3) for a, b in zip(p, r))
                rest = BOX[:at] + BOX[at + 1:]
                for pieces in (
                    [(p, q, r), (p, r, s)], [(p, q, s), (q, s, r)],
                    [(p, q, amid), (q, r, amid), (r, s, amid), (s, p, amid)],
                    [(p, q, amid, s), (q, r, s, amid)], [(p, q, r, amid), (r, s, p, amid)],
                    [(p, q, amid), (p, q, amid), ring], [(p, q, r, s, p, q, r, s, p, q, r, s)], [(p, q, q, r, s, s)],
                ):
                    self.check(frame, rest + pieces, [[one] for one in BOX])
                    self.check(frame, pieces[::-1] + rest, [[one] for one in BOX])

    def test_the_same_body_of_other_heaps(self):
        for frame in FRAMES:
            big = [[ring] for ring in cube_rings(0, 0, 0, 2)]
            small = [cube_rings(*corner) for corner in product((0, 1), repeat=3)]
            self.check(frame, [ring for rings in small for ring in rings], big)
            slab = box_rings((0, 0, 0), (2, 2, 1)) + box_rings((0, 0, 1), (2, 2, 2))
            self.check(frame, slab, big)
            around = box_rings((-1, 0, 0), (2, 2, 2)) + box_rings((-1, 0, 0), (0, 2, 2))
            self.check(frame, around, big)
            # Six pyramids over the sides, with their tips at one point within.
            tip = (1, HALF, Fraction(2, 3))
            rings = []
            for ring in cube_rings(0, 0, 0, 2):
                rings.append(ring)
                rings.extend((ring[k], ring[k - 1], tip) for k in range(4))
            self.assertEqual(len(rings), 30)
            self.check(frame, rings, big)

    def test_rings_without_land_change_nothing(self):
        for frame in FRAMES:
            for name, (rings, walls) in HEAPS.items():
                more = HEAPS["no land"][0]
                self.check(frame, rings + more, walls)
                self.check(frame, more + rings, walls)

    def test_lists_and_tuples(self):
        for frame in FRAMES:
            for name, (rings, walls) in HEAPS.items():
                heap = frame.heap(rings)
                for outer, inner in product((list, tuple), repeat=2):
                    self.assertEqual(body_of(outer(inner(ring) for ring in heap)), frame.body(walls))
                self.assertEqual(body_of([list(r) if k % 2 else r for k, r in enumerate(heap)]), frame.body(walls))

    def test_lists_stay_as_they_are(self):
        for frame in FRAMES:
            for name, (rings, walls) in HEAPS.items():
                handed = [list(ring) for ring in frame.heap(rings)]
                before = copy.deepcopy(handed)
                found = body_of(handed)
                self.assertEqual(handed, before)
                for ring in handed:
                    ring.reverse()
                    ring.append(frame.at(9, 9, 11))
                    ring.append(frame.at(9, 9, 11))
                self.assertEqual(found, frame.body(walls))
                self.assertEqual(body_of(before), found)
                handed.clear()
                self.assertEqual(body_of(handed), ())

    def test_great_numbers(self):
        for great in (GREAT, HUGE):
            corners = [(0, 0, 0, 1), (great, 0, 0, 1), (0, great, 1, great + 1), (1, great, great + 2, great)]
            rings = [corners[:k] + corners[k + 1:] for k in range(4)]
            found = body_of(rings)
            self.assertEqual(len(found), 4)
            for plane, (ring,) in found:
                inside = [p for p in corners if p not in ring]
                self.assertEqual(len(inside), 1)
                self.assertTrue(all(sum(a * b for a, b in zip(plane, p)) == 0 for p in ring))
                self.assertLess(sum(a * b for a, b in zip(plane, inside[0])), 0)

    def test_two_hundred_rings(self):
        cubes = [ring for k in range(33) for ring in cube_rings(3 * k, k % 4, k % 5, 1 + k % 2)]
        found = body_of(PLAIN.heap(cubes))
        self.assertEqual(sum(len(rings) for plane, rings in found), 198)
        self.assertEqual(sorted(len(ring) for ring in heap_of(found)), [4] * 198)
        row = [ring for k in range(33) for ring in cube_rings(k, 0, 0)]
        self.check(PLAIN, row, [[ring] for ring in box_rings((0, 0, 0), (33, 1, 1))])


class Within(unittest.TestCase):
    """[27]: what lies within, by the count of a half line, is what the list of walls tells."""

    INSIDE = {
        "box": lambda at: in_box((0, 0, 0), (1, 2, 3))(at),
        "tetrahedron": lambda at: min(at) > 0 and at[0] / 3 + at[1] / 2 + at[2] < 1,
        "along a wall": lambda at: in_box((0, 0, 0), (2, 1, 1))(at),
        "along an edge": lambda at: in_box((0, 0, 0), (1, 1, 1))(at) or in_box((1, 1, 0), (2, 2, 1))(at),
        "at a corner": lambda at: in_box((0, 0, 0), (1, 1, 1))(at) or in_box((1, 1, 1), (2, 2, 2))(at),
        "one within the other": lambda at: in_box((0, 0, 0), (3, 3, 3))(at) and not in_box((1, 1, 1), (2, 2, 2))(at),
        "overlap": lambda at: in_box((0, 0, 0), (2, 2, 2))(at) != in_box((1, 1, 1), (3, 3, 3))(at),
        "twice": lambda at: False,
    }

    def test_points_of_the_told_ones(self):
        chance = random.Random(91)
        for frame in FRAMES:
            for name, inside in self.INSIDE.items():
                heap = heap_of(body_of(frame.heap(HEAPS[name][0])))
                for spot in some_spots(chance, 12, 3):
                    self.assertEqual(is_within(heap, frame.spot(*spot)), inside(spot), (name, spot))

    def test_every_half_line_gives_the_same(self):
        heap = heap_of(body_of(PLAIN.heap(HEAPS["overlap"][0])))
        for spot in some_spots(random.Random(92), 6, 3):
            told = {is_within_along(heap, spot, way) for way in WAYS[:20]} - {None}
            self.assertEqual(len(told), 1)

    def test_heaps_and_the_bodies_of_them(self):
        chance = random.Random(93)
        for k in range(25):
            frame = FRAMES[k % len(FRAMES)]
            heap = frame.heap(some_solid(chance) + some_solid(chance))
            body = body_of(heap)
            for spot in some_spots(chance, 8, 3):
                self.assertEqual(is_within(heap_of(body), frame.spot(*spot)), is_within(heap, frame.spot(*spot)))

    def test_walls_look_out_of_the_body(self):
        chance = random.Random(94)
        for k in range(16):
            frame = FRAMES[k % len(FRAMES)]
            heap = frame.heap(some_solid(chance) + some_solid(chance))
            body = body_of(heap)
            self.assertEqual(list(body), sorted(body))
            for plane in sorted({turn for plane, rings in body for turn in (plane, tuple(-n for n in plane))}):
                wall = plane, dict(body).get(plane, ())
                self.assertEqual(wall, land_by_hand(*wall))
                for n in range(3):
                    p = spot_in(chance, plane, heap)
                    self.assertEqual(land_place(wall, p), 1 if is_wall(heap, plane, p) else -1)


def is_within_along(heap, spot, way):
    """Whether the count along this way is odd; None where it meets a side."""
    met = [meets_land([measures(p) for p in ring], spot, way) for ring in heap]
    return None if None in met else met.count(True) % 2 == 1


class NotFlatOnes(unittest.TestCase):
    def refused(self, heap, at):
        for handed in (heap, tuple(heap), [list(ring) for ring in heap]):
            with self.assertRaises(NotFlat) as caught:
                body_of(handed)
            self.assertEqual(caught.exception.at, at)
            self.assertIs(type(caught.exception.at), int)
            self.assertIsInstance(caught.exception, YardError)

    def test_the_first_such_ring(self):
        for frame in ALL_FRAMES:
            heap = frame.heap(BOX)
            bent = frame.ring([(0, 0, 0), (1, 0, 0), (1, 1, 0), (0, 1, 1)])
            for at in range(len(heap) + 1):
                self.refused(heap[:at] + [bent] + heap[at:], at)
                self.refused(heap[:at] + [bent, bent] + heap[at:], at)
                self.refused(heap[:at] + [bent] + heap[at:] + [bent[::-1]], at)

    def test_all_rings_count(self):
        frame = FRAMES[2]
        bent = frame.ring([(0, 0, 0), (1, 0, 0), (1, 1, 0), (0, 1, 1)])
        before = [(), frame.ring([(0, 0, 0)]), frame.ring([(0, 0, 0), (1, 2, 3)]), frame.ring([(0, 0, 0)] * 5)]
        for many in range(5):
            self.refused(before[:many] + [bent], many)

    def test_rings_that_begin_on_a_line(self):
        for frame in ALL_FRAMES:
            line = [(0, 0, 0), (0, 0, 0), (1, 1, 0), (2, 2, 0), (-1, -1, 0)]
            flat = [(3, 0, 0), (0, 1, 0)]
            self.refused([frame.ring(line + flat + [(0, 0, 1)])], 0)
            self.refused([frame.ring([(0, 0, 1)] + line + flat)], 0)
            self.refused([frame.ring(flat + [(0, 0, 1)] + line)], 0)
            self.refused([frame.ring(flat + line + [(2, 2, Fraction(1, GREAT))])], 0)
            with self.assertRaises(NotClosed):
                body_of([frame.ring(line + flat)])
            self.assertEqual(body_of([frame.ring(line + flat), frame.ring(flat[::-1] + line[::-1])]), ())

    def test_goes_ahead_of_gaps(self):
        for frame in FRAMES:
            heap = frame.heap(BOX[:-1])
            bent = frame.ring([(0, 0, 0), (1, 0, 0), (1, 1, 0), (0, 1, 1)])
            with self.assertRaises(NotClosed):
                body_of(heap)
            for at in range(len(heap) + 1):
                self.refused(heap[:at] + [bent] + heap[at:], at)


class NotClosedOnes(unittest.TestCase):
    def refused(self, heap, gap):
        for handed in (heap, tuple(heap), [list(ring) for ring in heap], heap[::-1], [ring[::-1] for ring in heap]):
            with self.assertRaises(NotClosed) as caught:
                body_of(handed)
            self.assertEqual(caught.exception.gap, gap)
            self.assertTrue(is_plain(caught.exception.gap))
            self.assertIsInstance(caught.exception, YardError)

    def test_one_ring(self):
        self.refused([((0, 0, 0, 1), (1, 0, 0, 1), (0, 1, 0, 1))], ((0, 0, 0, 1), (0, 1, 0, 1)))
        self.refused([((5, 0, 0, 1), (1, 0, 0, 1), (0, 1, 0, 1))], ((0, 1, 0, 1), (1, 0, 0, 1)))
        # Less is not nearer: (1, 0, 0, 1) goes ahead of (3, 0, 0, 4), and this ahead of (3, 1, 0, 1).
        self.refused([((3, 0, 0, 4), (1, 0, 0, 1), (3, 1, 0, 1))], ((1, 0, 0, 1), (3, 0, 0, 4)))

    def test_a_side_left_out(self):
        for frame in ALL_FRAMES:
            for rings in (BOX, TETRA, CUBE + cube_rings(1, 1, 0)):
                heap = frame.heap(rings)
                for at, ring in enumerate(heap):
                    gap = min(tuple(sorted((p, q))) for p, q in zip(ring, ring[1:] + ring[:1]))
                    self.refused(heap[:at] + heap[at + 1:], gap)
                    self.refused(heap + [ring], gap)

    def test_sides_on_one_line_are_one_stretch(self):
        top = [ring for ring in CUBE if ring != CUBE[5]] + [ring for ring in cube_rings(1, 0, 0) if ring != cube_rings(1, 0, 0)[5]]
        self.refused(PLAIN.heap(top), ((0, 0, 1, 1), (0, 1, 1, 1)))
        # With more rings the least stretch is the long one, made of the sides of two cubes.
        wall = ((0, 0, 1), (0, 1, 1), (0, 1, 7))
        self.refused(PLAIN.heap(top + [wall]), ((0, 0, 1, 1), (0, 1, 7, 1)))
        lid = ((0, 1, 1), (1, 1, 1), (1, 1, 4), (0, 1, 4))
        self.refused(PLAIN.heap(top + [wall, lid, ((0, 0, 1), (0, 1, 7), (0, 1, 9))]), ((0, 0, 1, 1), (0, 1, 9, 1)))
        row = [((k, 0, 0), (k + 1, 0, 0), (k, -1, 0)) for k in range(6)]
        self.refused(PLAIN.heap(row), ((0, -1, 0, 1), (0, 0, 0, 1)))
        self.refused(PLAIN.heap([((0, 0, 0), (1, 0, 0), (1, 1, 0)), ((1, 0, 0), (2, 0, 0), (2, 0, 5))]),
                     ((0, 0, 0, 1), (1, 1, 0, 1)))
        self.refused(PLAIN.heap([((0, 0, 0), (1, 0, 0), (9, 1, 0)), ((1, 0, 0), (2, 0, 0), (2, 0, 5))]),
                     ((0, 0, 0, 1), (2, 0, 0, 1)))

    def test_what_lies_on_an_even_number_of_sides_parts_a_stretch(self):
        self.refused(PLAIN.heap([((0, 0, 0), (4, 0, 0), (9, 1, 0)), ((1, 0, 0), (2, 0, 0), (9, 0, 5))]),
                     ((0, 0, 0, 1), (1, 0, 0, 1)))
        self.refused(PLAIN.heap([((0, 0, 0), (4, 0, 0), (9, 1, 0)), ((0, 0, 0), (3, 0, 0), (9, 0, 5))]),
                     ((0, 0, 0, 1), (9, 0, 5, 1)))
        self.refused(PLAIN.heap([((0, 0, 0), (4, 0, 0), (1, 0, 0), (3, 0, 0), (9, 1, 0))]),
                     ((0, 0, 0, 1), (3, 0, 0, 1)))

    def test_rings_that_share_a_line(self):
        chance = random.Random(95)
        for k in range(20):
            frame = FRAMES[k % len(FRAMES)]
            steps = chance.sample(range(0, 40), 10)
            rings = [((s, 0, 0), (t, 0, 0), (20, n + 1, k + n)) for n, (s, t) in enumerate(zip(steps[::2], steps[1::2]))]
            ends = sorted(steps)
            gaps = [(frame.at(s, 0, 0), frame.at(t, 0, 0)) for s, t in zip(ends[::2], ends[1::2])]
            gaps += [(frame.at(*ring[end]), frame.at(*ring[2])) for ring in rings for end in (0, 1)]
            self.refused(frame.heap(rings), min(tuple(sorted(gap)) for gap in gaps))

    def test_great_numbers(self):
        for great in (GREAT, HUGE):
            p, q, r = (great, 0, 1, great - 1), (great, 1, 0, great + 1), (1, 1, 1, great)
            self.refused([(p, q, r)], min(tuple(sorted(pair)) for pair in ((p, q), (q, r), (r, p))))


class Heaps(unittest.TestCase):
    def test_in_the_order_of_the_list(self):
        for frame in ALL_FRAMES:
            for name, (rings, walls) in HEAPS.items():
                body = frame.body(walls)
                heap = heap_of(body)
                expected = []
                for plane, told in body:
                    expected.extend(told)
                self.assertEqual(heap, tuple(expected))
                self.assertTrue(is_plain(heap) and type(heap) is tuple)
                self.assertEqual(body_of(heap), body)
        self.assertEqual(heap_of(()), ())

    def test_body_of_makes_the_body_again(self):
        chance = random.Random(96)
        for k in range(30):
            frame = FRAMES[k % len(FRAMES)]
            body = body_of(frame.heap(some_solid(chance) + some_solid(chance) + some_solid(chance)))
            heap = heap_of(body)
            self.assertEqual(body_of(heap), body)
            self.assertEqual(body_of(list(heap)[::-1]), body)
            self.assertIs(is_body(body), True)


class IsBody(unittest.TestCase):
    def test_of_what_body_of_gives(self):
        for frame in ALL_FRAMES:
            for name, (rings, walls) in HEAPS.items():
                self.assertIs(is_body(body_of(frame.heap(rings))), True)
                self.assertIs(is_body(frame.body(walls)), True)
        self.assertIs(is_body(()), True)

    def test_not_sorted(self):
        for frame in FRAMES:
            body = frame.body(HEAPS["tetrahedron"][1])
            for order in permutations(body):
                self.assertIs(is_body(order), order == body)
            box = frame.body(HEAPS["along an edge"][1])
            self.assertIs(is_body(box[1:] + box[:1]), False)
            self.assertIs(is_body(tuple((plane, rings[::-1]) for plane, rings in box)), False)

    def test_turned_over(self):
        for frame in FRAMES:
            for name, (rings, walls) in HEAPS.items():
                body = frame.body(walls)
                for at, (plane, told) in enumerate(body):
                    back = tuple(-n for n in plane)
                    turned = land_by_hand(back, told)
                    for wall in (turned, (back, told), (plane, turned[1])):
                        self.assertIs(is_body(tuple(sorted(body[:at] + (wall,) + body[at + 1:]))), False)
                if body:
                    inside_out = [land_by_hand(tuple(-n for n in plane), told) for plane, told in body]
                    self.assertIs(is_body(tuple(sorted(inside_out))), False)

    def test_a_wall_left_out_or_twice(self):
        for frame in FRAMES:
            for name, (rings, walls) in HEAPS.items():
                body = frame.body(walls)
                for at in range(len(body)):
                    self.assertIs(is_body(body[:at] + body[at + 1:]), False)
                    self.assertIs(is_body(body[:at + 1] + body[at:]), False)
                    self.assertIs(is_body(body[:at] + body[at:at + 1] * 3 + body[at + 1:]), False)

    def test_a_wall_without_rings(self):
        for frame in FRAMES:
            for name, (rings, walls) in HEAPS.items():
                body = frame.body(walls)
                for plane in ((1, 0, 0, -77), (0, 0, 1, 0), frame.plane(BOX[0])):
                    self.assertIs(is_body(tuple(sorted(body + ((plane, ()),)))), False)
        self.assertIs(is_body((((0, 0, 1, 0), ()),)), False)
        self.assertIs(is_body((((0, 0, 1, 0), ((),)),)), False)

    def test_a_wall_in_two_parts(self):
        body = PLAIN.body(HEAPS["along an edge"][1])
        parted = []
        for plane, rings in body:
            parted.extend((plane, (ring,)) for ring in rings)
        self.assertIs(is_body(tuple(sorted(parted))), False)
        halves = PLAIN.body([[(p, q, r)] for p, q, r, s in BOX] + [[(p, r, s)] for p, q, r, s in BOX])
        self.assertIs(is_body(halves), False)
        together = {}
        for plane, rings in halves:
            together[plane] = tuple(sorted(together.get(plane, ()) + rings))
        self.assertIs(is_body(tuple(sorted(together.items()))), False)

    def test_rings_told_otherwise(self):
        for frame in FRAMES:
            body = frame.body(HEAPS["box"][1])
            for at, (plane, (ring,)) in enumerate(body):
                for other in (
                    ring[1:] + ring[:1], ring[::-1], ring[:1] + ring[:1] + ring[1:],
                    ring[:1] + (point_at(*((a + b) / 2 for a, b in zip(measures(ring[0]), measures(ring[1])))),) + ring[1:],
                ):
                    self.assertIs(is_body(body[:at] + ((plane, (other,)),) + body[at + 1:]), False)

    def test_not_flat_or_not_closed(self):
        for frame in FRAMES:
            body = frame.body(HEAPS["box"][1])
            off = frame.at(7, 8, 9)
            for at, (plane, (ring,)) in enumerate(body):
                self.assertIs(is_body(body[:at] + ((plane, (ring[:-1] + (off,),)),) + body[at + 1:]), False)
                self.assertIs(is_body(body[:at] + ((plane, (ring[:-1],)),) + body[at + 1:]), False)
                self.assertIs(is_body(((plane, (ring,)),)), False)

    def test_planes_that_do_not_hold_their_rings(self):
        for frame in FRAMES:
            for name in ("box", "tetrahedron", "along an edge"):
                body = frame.body(HEAPS[name][1])
                for at, (plane, rings) in enumerate(body):
                    for other in (plane[:3] + (plane[3] + 1,), (plane[0] + 1,) + plane[1:], (1, 2, 3, 500)):
                        self.assertIs(is_body(tuple(sorted(body[:at] + ((other, rings),) + body[at + 1:]))), False)
                planes = [plane for plane, rings in body]
                swapped = tuple((planes[k - 1], rings) for k, (plane, rings) in enumerate(body))
                self.assertIs(is_body(swapped), False)
                self.assertIs(is_body(tuple(sorted(swapped))), False)

    def test_points_anywhere(self):
        points = some_points(8, 97)
        self.assertIs(is_body((((1, 2, 3, 4), (tuple(points),)),)), False)
        self.assertIs(is_body((((1, 2, 3, 4), (tuple(points[:1]),)),)), False)


if __name__ == "__main__":
    unittest.main()
