"""The four words of bodies: [32], and [5] as far as it speaks of them."""

import random
import unittest
from itertools import permutations

from solidyard.bodies import body_of, heap_of, is_body
from solidyard.words import common, either, joined, less
from tests.helper import (
    BENT, BOX, CUBE, FRAMES, GREAT_FRAMES, HEAPS, OTHER_BENT, OVERLAP, SMALL, TETRA, box_rings, cube_rings, is_plain,
    is_within, land_by_hand, on_x, ones, rolled_all, some_solid, some_spots, turned_inside, volume_by_hand,
)

ALL_FRAMES = FRAMES + GREAT_FRAMES
WORDS = (
    (joined, lambda in_one, in_other: in_one or in_other),
    (common, lambda in_one, in_other: in_one and in_other),
    (less, lambda in_one, in_other: in_one and not in_other),
    (either, lambda in_one, in_other: in_one != in_other),
)


BIG, INNER = cube_rings(0, 0, 0, 3), cube_rings(1, 1, 1)
LOW, HIGH = cube_rings(0, 0, 0, 2), cube_rings(1, 1, 1, 2)
LOW_SIDE = on_x(0, ((0, 0), (0, 2), (2, 2), (2, 0)))
HIGH_SIDE = on_x(3, ((1, 1), (3, 1), (3, 3), (1, 3)))
HOLLOW = ones(BIG + turned_inside(INNER))
# Walls of two bodies, and those of joined, common, the first less the second, the second less the first, either.
CASES = {
    "overlap": (
        ones(LOW), ones(HIGH),
        rolled_all([LOW_SIDE, on_x(1, OTHER_BENT[::-1]), on_x(2, BENT), HIGH_SIDE]),
        ones(INNER),
        rolled_all([LOW_SIDE, on_x(1, SMALL), on_x(2, BENT)]),
        rolled_all([on_x(1, OTHER_BENT[::-1]), on_x(2, SMALL[::-1]), HIGH_SIDE]),
        OVERLAP,
    ),
    "along a wall": (
        ones(CUBE), ones(cube_rings(1, 0, 0)), HEAPS["along a wall"][1], [], ones(CUBE), ones(cube_rings(1, 0, 0)),
        HEAPS["along a wall"][1],
    ),
    "along a part of a wall": (
        ones(BIG), ones(cube_rings(1, 1, 3)), HEAPS["along a part of a wall"][1], [], ones(BIG),
        ones(cube_rings(1, 1, 3)), HEAPS["along a part of a wall"][1],
    ),
    "along an edge": (
        ones(CUBE), ones(cube_rings(1, 1, 0)), HEAPS["along an edge"][1], [], ones(CUBE), ones(cube_rings(1, 1, 0)),
        HEAPS["along an edge"][1],
    ),
    "at a corner": (
        ones(CUBE), ones(INNER), ones(CUBE + INNER), [], ones(CUBE), ones(INNER), ones(CUBE + INNER),
    ),
    "apart": (
        ones(CUBE), ones(cube_rings(5, 0, 7)), HEAPS["apart"][1], [], ones(CUBE), ones(cube_rings(5, 0, 7)),
        HEAPS["apart"][1],
    ),
    "one within the other": (ones(BIG), ones(INNER), ones(BIG), ones(INNER), HOLLOW, [], HOLLOW),
    "one in the corner of the other": (
        ones(BIG), ones(CUBE), ones(BIG), ones(CUBE), HEAPS["one in the corner of the other"][1], [],
        HEAPS["one in the corner of the other"][1],
    ),
    "a hollow and what fills it": (HOLLOW, ones(INNER), ones(BIG), [], HOLLOW, ones(INNER), ones(BIG)),
    "slabs across": (
        ones(box_rings((0, 0, 0), (3, 1, 1))), ones(box_rings((1, -1, 0), (2, 2, 1))),
        [[((0, 0, 1), (1, 0, 1), (1, -1, 1), (2, -1, 1), (2, 0, 1), (3, 0, 1), (3, 1, 1), (2, 1, 1), (2, 2, 1),
           (1, 2, 1), (1, 1, 1), (0, 1, 1))],
         [((0, 0, 0), (1, 0, 0), (1, -1, 0), (2, -1, 0), (2, 0, 0), (3, 0, 0), (3, 1, 0), (2, 1, 0), (2, 2, 0),
           (1, 2, 0), (1, 1, 0), (0, 1, 0))[::-1]],
         on_x(0, ((0, 0), (0, 1), (1, 1), (1, 0))), on_x(3, ((0, 0), (1, 0), (1, 1), (0, 1))),
         on_x(1, ((-1, 0), (-1, 1), (0, 1), (0, 0)), ((1, 0), (1, 1), (2, 1), (2, 0))),
         on_x(2, ((-1, 0), (0, 0), (0, 1), (-1, 1)), ((1, 0), (2, 0), (2, 1), (1, 1))),
         [((1, -1, 0), (2, -1, 0), (2, -1, 1), (1, -1, 1))], [((1, 2, 0), (1, 2, 1), (2, 2, 1), (2, 2, 0))],
         [((0, 0, 0), (1, 0, 0), (1, 0, 1), (0, 0, 1)), ((2, 0, 0), (3, 0, 0), (3, 0, 1), (2, 0, 1))],
         [((0, 1, 0), (0, 1, 1), (1, 1, 1), (1, 1, 0)), ((2, 1, 0), (2, 1, 1), (3, 1, 1), (3, 1, 0))]],
        ones(cube_rings(1, 0, 0)), None, None, None,
    ),
    "the same": (ones(BOX), ones(BOX), ones(BOX), ones(BOX), [], [], []),
    "the same hollow": (HOLLOW, HOLLOW, HOLLOW, HOLLOW, [], [], []),
    "one without points": (ones(TETRA), [], ones(TETRA), [], ones(TETRA), [], ones(TETRA)),
    "both without points": ([], [], [], [], [], [], []),
}


class Words(unittest.TestCase):
    def test_told_ones(self):
        for frame in ALL_FRAMES:
            for name, case in CASES.items():
                one, other, both, shared, first, second, apart = (
                    None if walls is None else frame.body(walls) for walls in case)
                for found, expected in (
                    (joined(one, other), both), (joined(other, one), both), (common(one, other), shared),
                    (common(other, one), shared), (less(one, other), first), (less(other, one), second),
                    (either(one, other), apart), (either(other, one), apart),
                ):
                    self.assertTrue(is_plain(found) and type(found) is tuple)
                    if expected is not None:
                        self.assertEqual(found, expected, name)

    def test_point_by_point(self):
        chance = random.Random(111)
        for k in range(40):
            frame = FRAMES[k % len(FRAMES)]
            heaps = [frame.heap(some_solid(chance) + (some_solid(chance) if k % 3 == 0 else [])) for n in range(2)]
            one, other = (body_of(heap) for heap in heaps)
            made = [word(one, other) for word, keeps in WORDS]
            for spot in some_spots(chance, 10, 5):
                spot = frame.spot(*spot)
                in_one, in_other = (is_within(heap, spot) for heap in heaps)
                for body, (word, keeps) in zip(made, WORDS):
                    self.assertEqual(is_within(heap_of(body), spot), keeps(in_one, in_other))

    def test_told_as_bodies_are(self):
        chance = random.Random(112)
        for k in range(25):
            frame = FRAMES[k % len(FRAMES)]
            heaps = [frame.heap(some_solid(chance) + some_solid(chance)) for n in range(2)]
            one, other = (body_of(heap) for heap in heaps)
            for word, keeps in WORDS:
                made = word(one, other)
                self.assertTrue(is_plain(made) and is_body(made))
                self.assertEqual(list(made), sorted(made))
                for plane, rings in made:
                    self.assertTrue(rings)
                    if len(rings) < 4:
                        self.assertEqual(land_by_hand(plane, rings), (plane, rings))
            self.assertEqual(either(one, other), body_of(heaps[0] + heaps[1]))

    def test_the_same_body_in_several_ways(self):
        chance = random.Random(113)
        for k in range(25):
            frame = FRAMES[k % len(FRAMES)]
            one, other, third = (body_of(frame.heap(some_solid(chance))) for n in range(3))
            both, shared, apart = joined(one, other), common(one, other), either(one, other)
            self.assertEqual(joined(other, one), both)
            self.assertEqual(common(other, one), shared)
            self.assertEqual(either(other, one), apart)
            self.assertEqual(less(both, shared), apart)
            self.assertEqual(joined(less(one, other), less(other, one)), apart)
            self.assertEqual(joined(less(one, other), shared), one)
            self.assertEqual(less(both, other), less(one, other))
            self.assertEqual(less(one, less(one, other)), shared)
            self.assertEqual(either(apart, other), one)
            self.assertEqual(joined(both, third), joined(one, joined(other, third)))
            self.assertEqual(common(shared, third), common(one, common(other, third)))
            self.assertEqual(common(both, third), joined(common(one, third), common(other, third)))
            self.assertEqual(less(third, both), less(less(third, one), other))
            self.assertEqual(volume_by_hand(both) + volume_by_hand(shared), volume_by_hand(one) + volume_by_hand(other))
            self.assertEqual(volume_by_hand(less(one, other)), volume_by_hand(one) - volume_by_hand(shared))

    def test_itself_and_the_body_without_points(self):
        for frame in ALL_FRAMES:
            for name, (rings, walls) in HEAPS.items():
                body = frame.body(walls)
                self.assertEqual([word(body, body) for word, keeps in WORDS], [body, body, (), ()])
                self.assertEqual([word(body, ()) for word, keeps in WORDS], [body, (), body, body])
                self.assertEqual([word((), body) for word, keeps in WORDS], [body, (), (), body])

    def test_cubes_joined_in_whatever_order(self):
        for frame in FRAMES:
            cubes = [body_of(frame.heap(cube_rings(x, y, z))) for x, y, z in ((0, 0, 0), (1, 0, 0), (0, 1, 0), (1, 1, 0))]
            slab = frame.body(ones(box_rings((0, 0, 0), (2, 2, 1))))
            for order in permutations(cubes):
                made = ()
                for cube in order:
                    made = joined(made, cube)
                self.assertEqual(made, slab)

    def test_a_frame_with_a_hole_through_it(self):
        for frame in ALL_FRAMES:
            plate = frame.body(ones(box_rings((0, 0, 0), (3, 3, 1))))
            peg = frame.body(ones(box_rings((1, 1, -1), (2, 2, 2))))
            holed = less(plate, peg)
            outside, inside = box_rings((0, 0, 0), (3, 3, 1)), turned_inside(box_rings((1, 1, 0), (2, 2, 1)))
            pierced = [[outside[k], inside[k]] for k in (4, 5)]
            self.assertEqual(holed, frame.body(ones(outside[:4] + inside[:4]) + pierced))
            self.assertEqual(joined(holed, common(plate, peg)), plate)
            self.assertEqual(less(joined(plate, peg), peg), holed)

    def test_walls_through_one_another(self):
        # By odd and even the walls of two tetrahedra that cross go through one another.
        for frame in FRAMES:
            heaps = [frame.heap(TETRA), frame.heap([tuple((2 - x, 1 - y, z) for x, y, z in ring) for ring in TETRA])]
            one, other = (body_of(heap) for heap in heaps)
            apart = either(one, other)
            self.assertEqual(apart, body_of(heaps[0] + heaps[1]))
            self.assertEqual(apart, joined(less(one, other), less(other, one)))
            self.assertNotEqual(common(one, other), ())
            self.assertEqual(volume_by_hand(apart), volume_by_hand(one) + volume_by_hand(other) - 2 * volume_by_hand(common(one, other)))

    def test_bodies_stay_as_they_are(self):
        one, other = (FRAMES[2].body(ones(rings)) for rings in (LOW, HIGH))
        for word, keeps in WORDS:
            word(one, other)
            self.assertEqual((one, other), tuple(FRAMES[2].body(ones(rings)) for rings in (LOW, HIGH)))


if __name__ == "__main__":
    unittest.main()
