"""Plain bodies: [44], [45]."""

import random
import unittest
from itertools import combinations, product

from solidyard.bodies import body_of
from solidyard.lines import line_common, spot
from solidyard.plain import is_plain
from solidyard.points import amid
from solidyard.volumes import place
from solidyard.words import either, joined, less
from tests.helper import (
    BLOCK, FRAMES, GREAT_FRAMES, PINCHED, PLAIN, SOUND, TINY, WIDE, box_rings, cells_heap, crossed, cube_rings, dotted,
    is_plain_by_cells, measures, point_at, signum, some_cells, some_solid, tetra_rings, turned_over, whole,
)

ALL_FRAMES = FRAMES + GREAT_FRAMES[:1]


# By the definition: round each point in which planes of walls meet, and between such points, all the
# wedges into which these planes part a small ball are looked at. Places are asked of the program.

def wedges_round(norms):
    """A direction into each wedge between planes through one point, by the sides of the planes on which it lies."""
    rays = [whole(way) for way in (crossed(*pair) for pair in combinations(norms, 2)) if any(way)]
    found = {}
    for ray in {turn for ray in rays for turn in (ray, turned_over(ray))}:
        # Near a ray only the planes through it part the ball.
        flat = [crossed(ray, norm) for norm in norms if dotted(norm, ray) == 0]
        flat += [turned_over(way) for way in flat]
        for one, other in combinations(flat, 2):
            way = tuple(10 ** 9 * a + b + c for a, b, c in zip(ray, one, other))
            signs = tuple(signum(dotted(norm, way)) for norm in norms)
            if 0 not in signs:
                found[signs] = way
    return found


def hang_together(wedges):
    """True where one comes from each wedge to each other one through walls between neighbours."""
    left, waiting = set(wedges[1:]), list(wedges[:1])
    while waiting:
        here = waiting.pop()
        near = {signs for signs in left if sum(a != b for a, b in zip(here, signs)) == 1}
        left -= near
        waiting.extend(near)
    return not left


def is_plain_at(body, planes, p):
    """True where, near a point, the points within hang together and those without do, too."""
    within, without = [], []
    for signs, way in wedges_round([plane[:3] for plane in planes if dotted(plane, p) == 0]).items():
        at = place(body, point_at(*(a + TINY * b for a, b in zip(measures(p), way))))
        (within if at == 1 else without).append(signs)
    return hang_together(within) and hang_together(without)


def is_plain_by_hand(body):
    planes = sorted({max(plane, turned_over(plane)) for plane, rings in body})
    for line in {line_common(one, other) for one, other in combinations(planes, 2)} - {None}:
        met = {spot(line, plane) for plane in planes} - {None}
        met = sorted(met, key=lambda p: dotted(measures(p), line))
        for p in met + [amid(p, q) for p, q in zip(met, met[1:])]:
            if place(body, p) == 0 and not is_plain_at(body, planes, p):
                return False
    return True


class Plain(unittest.TestCase):
    def test_sound_ones(self):
        for frame in ALL_FRAMES:
            for name, (rings, *told) in SOUND.items():
                self.assertIs(is_plain(body_of(frame.heap(rings))), True, name)

    def test_pinched_ones(self):
        for frame in ALL_FRAMES:
            for name, rings in PINCHED.items():
                self.assertIs(is_plain(body_of(frame.heap(rings))), False, name)

    def test_of_huge_numbers(self):
        for name in ("tetrahedron", "hollow", "tube", "corners amid sides", "near one another"):
            self.assertIs(is_plain(body_of(GREAT_FRAMES[1].heap(SOUND[name][0]))), True, name)
        for name in ("at a corner", "a corner amid a wall", "an edge across a wall", "two edges cross"):
            self.assertIs(is_plain(body_of(GREAT_FRAMES[1].heap(PINCHED[name]))), False, name)

    def test_as_hollows_of_a_wide_box(self):
        # What lies within and what lies without exchange their places.
        for frame in FRAMES:
            for name, (rings, *told) in SOUND.items():
                self.assertIs(is_plain(body_of(frame.heap(rings + WIDE))), True, name)
            for name, rings in PINCHED.items():
                self.assertIs(is_plain(body_of(frame.heap(rings + WIDE))), False, name)

    def test_the_body_without_points(self):
        self.assertIs(is_plain(()), True)

    def test_what_touches_beside_much_that_does_not(self):
        apart = [ring for k in range(3) for ring in cube_rings(50 + 3 * k, 0, 0)]
        for frame in FRAMES:
            for name, rings in PINCHED.items():
                self.assertIs(is_plain(body_of(frame.heap(apart + rings))), False, name)

    def test_hollows_that_come_to_the_outside(self):
        # A notch that opens, one that ends in a line, one that ends in a point, one that stops short.
        for top, expected in ((5, True), (4, False), (3, True)):
            for frame in FRAMES:
                block = body_of(frame.heap(BLOCK))
                ridge = body_of(frame.heap(tetra_rings((1, 2, top), (3, 2, top), (2, 1, 1), (2, 3, 1))))
                spike = body_of(frame.heap(tetra_rings((2, 2, top), (1, 1, 1), (3, 1, 1), (2, 3, 1))))
                self.assertIs(is_plain(less(block, ridge)), expected)
                self.assertIs(is_plain(less(block, spike)), expected)

    def test_four_walls_along_an_edge_that_are_joined_elsewhere(self):
        # Round the whole edge the two cubes touch, and a third block joins them at the end of it.
        for third in (box_rings((0, 0, 1), (2, 2, 2)), box_rings((0, 0, -1), (2, 2, 0))):
            body = body_of(PLAIN.heap(cube_rings(0, 0, 0) + cube_rings(1, 1, 0) + third))
            self.assertIs(is_plain(body), False)

    def test_cube_by_cube(self):
        # All bodies of two cubes by two by two that have the first cube.
        cells = list(product(range(2), repeat=3))
        for k, chosen in enumerate(product((True, False), repeat=7)):
            some = {cells[0]} | {cell for cell, kept in zip(cells[1:], chosen) if kept}
            found = is_plain(body_of(cells_heap(FRAMES[k % len(FRAMES)], some)))
            self.assertIs(found, is_plain_by_cells(some), some)

    def test_cube_by_cube_in_greater_ones(self):
        chance = random.Random(161)
        told = []
        for k in range(80):
            some = some_cells(chance, chance.choice((3, 4, 5)))
            found = is_plain(body_of(cells_heap(FRAMES[k % len(FRAMES)], some)))
            self.assertIs(found, is_plain_by_cells(some), some)
            told.append(found)
        self.assertTrue(40 < told.count(True) < 76)

    def test_boxes_in_any_place(self):
        # Boxes alone are bodies of cubes, whatever their bounds are: counted by their order along each axis.
        chance = random.Random(162)
        for k in range(40):
            bounds = [[sorted(chance.sample(range(6), 2)) for axis in range(3)] for n in range(3)]
            heap = [ring for box in bounds for ring in box_rings(*zip(*box))]
            cells = set()
            for box in bounds:
                cells ^= set(product(*(range(low, high) for low, high in box)))
            found = is_plain(body_of(FRAMES[k % len(FRAMES)].heap(heap)))
            self.assertIs(found, is_plain_by_cells(cells), bounds)

    def test_by_the_definition(self):
        chance = random.Random(164)
        told = []
        for k in range(60):
            solids = []
            while len(solids) < 2:
                low = [chance.randint(0, 2) for axis in range(3)]
                rings = box_rings(low, [chance.randint(n + 1, 3) for n in low])
                if chance.random() < 0.7:
                    rings = tetra_rings(*(tuple(chance.randint(0, 3) for axis in range(3)) for n in range(4)))
                solids.append(body_of(PLAIN.heap(rings)))
            body = chance.choice((joined, joined, either, less))(*solids)
            self.assertIs(is_plain(body), is_plain_by_hand(body), solids)
            told.append(is_plain(body))
        self.assertTrue(15 < told.count(True) < 55)

    def test_told_ones_by_the_definition(self):
        for name in ("tetrahedron", "corners amid sides", "a corner amid a side, with a wall in common", "near one another"):
            self.assertTrue(is_plain_by_hand(body_of(PLAIN.heap(SOUND[name][0]))), name)
        for name, rings in PINCHED.items():
            self.assertFalse(is_plain_by_hand(body_of(PLAIN.heap(rings))), name)

    def test_solids_alone(self):
        chance = random.Random(163)
        for k in range(30):
            self.assertIs(is_plain(body_of(FRAMES[k % len(FRAMES)].heap(some_solid(chance)))), True)


if __name__ == "__main__":
    unittest.main()
