"""Volumes and places: [36], [37], and [5] as far as it speaks of them."""

import random
import unittest
from fractions import Fraction

from solidyard.bodies import body_of
from solidyard.volumes import place, volume
from solidyard.words import common, either, joined, less
from tests.helper import (
    BOX, FRAMES, GREAT, GREAT_FRAMES, HEAPS, HOLED, HUGE, LIMIT, NICKED, PLAIN, TETRA, body_place_by_hand, box_rings,
    cube_rings, is_numbers, ones, point_at, some_solid, some_spots, tetra_rings, turned_inside, volume_of,
)

ALL_FRAMES = FRAMES + GREAT_FRAMES
HALF = Fraction(1, 2)
VOLUMES = {
    "box": 6, "tetrahedron": 1, "wedge": 2, "nothing": 0, "apart": 2, "along a wall": 2, "along a part of a wall": 28,
    "along an edge": 2, "at a corner": 2, "one within the other": 26, "one in the corner of the other": 26, "overlap": 14,
}


def as_pair(worth):
    worth = Fraction(worth)
    return worth.numerator, worth.denominator


def added(*fractions):
    return as_pair(sum(Fraction(*pair) for pair in fractions))


class Volumes(unittest.TestCase):
    def test_told_ones(self):
        for frame in ALL_FRAMES:
            for name, size in VOLUMES.items():
                found = volume(frame.body(HEAPS[name][1]))
                self.assertEqual(found, as_pair(size * frame.size), name)
                self.assertTrue(is_numbers(found, 2))
            self.assertEqual(volume(frame.body(NICKED)), as_pair(15 * frame.size))
            self.assertEqual(volume(frame.body(HOLED)), as_pair(14 * frame.size))

    def test_of_the_body_without_points(self):
        self.assertEqual(volume(()), (0, 1))

    def test_in_lowest_terms(self):
        for low, high, expected in (
            ((0, 0, 0), (HALF, HALF, HALF), (1, 8)), ((0, 0, 0), (Fraction(2, 3), Fraction(3, 2), 1), (1, 1)),
            ((Fraction(1, 3), Fraction(1, 5), Fraction(1, 7)), (1, 1, 1), (16, 35)),
            ((-HALF, -HALF, -HALF), (HALF, HALF, HALF), (1, 1)), ((-5, -6, -7), (-4, -4, -4), (6, 1)),
        ):
            self.assertEqual(volume(body_of(PLAIN.heap(box_rings(low, high)))), expected)

    def test_of_tetrahedra_over_unlike_bottoms(self):
        p, q, r, s = (0, 0, 0), (Fraction(1, 2), 0, 0), (0, Fraction(1, 3), 0), (0, 0, Fraction(1, 5))
        self.assertEqual(volume(body_of(PLAIN.heap(tetra_rings(p, q, r, s)))), (1, 180))
        p, q, r, s = (1, Fraction(1, 2), 0), (3, Fraction(1, 7), Fraction(-2, 5)), (0, 0, 1), (Fraction(5, 3), 2, 2)
        self.assertEqual(volume(body_of(PLAIN.heap(tetra_rings(p, q, r, s)))), (32, 35))

    def test_of_great_numbers(self):
        for great in (GREAT, HUGE, LIMIT):
            body = body_of(PLAIN.heap(box_rings((great, -great, 0), (great + 1, great, great))))
            self.assertEqual(volume(body), (2 * great * great, 1))
            body = body_of(PLAIN.heap(box_rings((0, 0, 0), (Fraction(1, great), great, Fraction(2, great)))))
            self.assertEqual(volume(body), (2, great))
            body = body_of(PLAIN.heap(tetra_rings((0, 0, 0), (great, 0, 0), (1, great, 0), (0, 1, great))))
            self.assertEqual(volume(body), as_pair(Fraction(great ** 3, 6)))

    def test_of_hollows(self):
        for frame in ALL_FRAMES:
            rings = cube_rings(0, 0, 0, 7) + turned_inside(cube_rings(1, 1, 1, 5)) + cube_rings(2, 2, 2, 3)
            body = frame.body(ones(rings + turned_inside(cube_rings(3, 3, 3, 1))))
            self.assertEqual(volume(body), as_pair((343 - 125 + 27 - 1) * frame.size))

    def test_words_come_to_both(self):
        chance = random.Random(131)
        for k in range(24):
            frame = FRAMES[k % len(FRAMES)]
            one, other = (body_of(frame.heap(some_solid(chance) + some_solid(chance))) for n in range(2))
            both = added(volume(one), volume(other))
            self.assertEqual(added(volume(joined(one, other)), volume(common(one, other))), both)
            self.assertEqual(added(volume(less(one, other)), volume(common(one, other))), volume(one))
            shared = volume(common(one, other))
            self.assertEqual(added(volume(either(one, other)), shared, shared), both)
            self.assertEqual(volume(one), volume_of(one))
            self.assertGreaterEqual(volume(one), (0, 1))


class Places(unittest.TestCase):
    def check(self, frame, body, expected):
        for spot, told in expected.items():
            found = place(body, frame.at(*spot))
            self.assertEqual(found, told, spot)
            self.assertIs(type(found), int)

    def test_of_a_box(self):
        tiny = Fraction(1, 10 ** 50)
        for frame in ALL_FRAMES:
            self.check(frame, frame.body(ones(BOX)), {
                (HALF, 1, 1): 1, (tiny, tiny, tiny): 1, (1 - tiny, 2 - tiny, 3 - tiny): 1,
                (0, 0, 0): 0, (1, 2, 3): 0, (1, 0, 3): 0,
                (0, 0, 1): 0, (HALF, 2, 3): 0, (1, tiny, 0): 0,
                (0, 1, 1): 0, (1, 1, 1): 0, (HALF, tiny, 3): 0, (HALF, HALF, 0): 0,
                (-tiny, 1, 1): -1, (1 + tiny, 2, 3): -1, (0, -1, 0): -1, (0, 0, 4): -1, (5, 1, 1): -1, (HALF, 1, -2): -1,
            })

    def test_of_a_tetrahedron(self):
        for frame in ALL_FRAMES:
            self.check(frame, frame.body(ones(TETRA)), {
                (1, HALF, Fraction(1, 4)): 1, (1, Fraction(2, 3), Fraction(1, 3)): 0, (Fraction(3, 2), 1, 0): 0,
                (3, 0, 0): 0, (2, 0, 0): 0, (1, 1, 0): 0, (1, 1, 1): -1, (3, 2, 0): -1, (4, 0, 0): -1, (-1, 0, 0): -1,
            })

    def test_of_hollows_and_holes(self):
        for frame in ALL_FRAMES:
            self.check(frame, frame.body(HEAPS["one within the other"][1]), {
                (HALF, HALF, HALF): 1, (3 * HALF, 3 * HALF, 3 * HALF): -1, (1, 1, 1): 0, (1, 3 * HALF, 3 * HALF): 0,
                (1, 1, 3 * HALF): 0, (3 * HALF, 3 * HALF, HALF): 1, (1, 1, HALF): 1, (2, 5 * HALF, 1): 1, (4, 1, 1): -1,
            })
            self.check(frame, frame.body(NICKED), {
                (2, HALF, HALF): -1, (2, HALF, 0): -1, (2, 0, HALF): 0, (2, 0, 1): 0, (2, HALF, 1): -1,
                (3 * HALF, HALF, HALF): 0, (1, HALF, HALF): 1, (1, HALF, 1): 0, (3, HALF, HALF): 1, (2, 2, HALF): 1,
            })
            self.check(frame, frame.body(HOLED), {
                (2, 2, HALF): 0, (3 * HALF, 3 * HALF, HALF): -1, (3 * HALF, 5 * HALF, HALF): 1, (2, 2, 1): 0, (2, 2, 2): -1,
                (3 * HALF, 3 * HALF, 1): -1, (3 * HALF, 2, HALF): 0,
            })

    def test_where_walls_touch(self):
        for frame in ALL_FRAMES:
            self.check(frame, frame.body(HEAPS["overlap"][1]), {
                (2, 2, 1): 0, (2, 2, 2): 0, (1, 1, 1): 0, (3 * HALF, 3 * HALF, 3 * HALF): -1, (HALF, HALF, HALF): 1,
                (2, 2, 3 * HALF): 0, (5 * HALF, 5 * HALF, 5 * HALF): 1, (2, HALF, 5 * HALF): -1, (1, HALF, HALF): 1,
            })
            self.check(frame, frame.body(HEAPS["along a wall"][1]), {(1, HALF, HALF): 1, (1, 0, 0): 0, (1, 1, HALF): 0})

    def test_of_the_body_without_points(self):
        for p in ((0, 0, 0, 1), (1, -2, 3, 7), (HUGE, 0, 0, GREAT)):
            self.assertEqual(place((), p), -1)

    def test_of_great_numbers(self):
        for great in (GREAT, HUGE, LIMIT):
            body = body_of(PLAIN.heap(box_rings((great, 0, 0), (great + 1, great, Fraction(1, great)))))
            small = Fraction(1, 2 * great)
            for spot, told in (
                ((great + HALF, 1, small), 1), ((great + small, great - small, small), 1), ((great, 1, small), 0),
                ((great - small, 1, small), -1), ((great + HALF, 1, 2 * small), 0), ((great + HALF, 1, 3 * small), -1),
            ):
                self.assertEqual(place(body, point_at(*spot)), told)

    def test_point_by_point(self):
        chance = random.Random(132)
        for k in range(40):
            frame = FRAMES[k % len(FRAMES)]
            body = body_of(frame.heap(some_solid(chance) + some_solid(chance) + some_solid(chance)))
            spots = some_spots(chance, 6, 5)
            spots += [tuple(Fraction(chance.randint(0, 12), 2) for k in range(3)) for n in range(12)]
            for spot in spots:
                self.assertEqual(place(body, frame.at(*spot)), body_place_by_hand(body, frame.at(*spot)))

    def test_on_corners_edges_and_walls(self):
        chance = random.Random(133)
        for k in range(12):
            frame = FRAMES[k % len(FRAMES)]
            body = body_of(frame.heap(some_solid(chance) + some_solid(chance)))
            for plane, rings in body:
                for ring in rings:
                    for p, q in zip(ring, ring[1:]):
                        self.assertEqual(place(body, p), 0)
                        share = Fraction(chance.randint(1, 8), 9)
                        spot = [a + share * (b - a) for a, b in zip(*([Fraction(n, e[3]) for n in e[:3]] for e in (p, q)))]
                        self.assertEqual(place(body, point_at(*spot)), 0)

    def test_of_a_word_it_is_the_word_of_the_places(self):
        chance = random.Random(134)
        for k in range(12):
            frame = FRAMES[k % len(FRAMES)]
            one, other = (body_of(frame.heap(some_solid(chance))) for n in range(2))
            for spot in some_spots(chance, 8, 5):
                p = frame.at(*spot)
                in_one, in_other = place(one, p) == 1, place(other, p) == 1
                for word, expected in (
                    (joined, in_one or in_other), (common, in_one and in_other), (less, in_one and not in_other),
                    (either, in_one != in_other),
                ):
                    self.assertEqual(place(word(one, other), p), 1 if expected else -1)


if __name__ == "__main__":
    unittest.main()
