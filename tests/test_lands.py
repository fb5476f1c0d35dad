"""Rings and flat lands: [17] to [22]."""

import copy
import random
import unittest
from fractions import Fraction
from itertools import permutations, product

from solidyard.errors import OffPlane, YardError
from solidyard.lands import is_land, land_of, land_over, land_place, spread
from tests.helper import (
    GREAT, HUGE, LIMIT, SHEETS, Sheet, crossed, great_sheets, is_numbers, is_plain, land_by_hand, measures,
    place_by_hand, point_at,
)

FLOOR = SHEETS[0]
ALL_SHEETS = SHEETS + tuple(great_sheets())
HALF = Fraction(1, 2)


def some_ring(chance, sheet, top, bottom, many):
    return sheet.ring(*(
        (Fraction(chance.randint(0, top), bottom), Fraction(chance.randint(0, top), bottom)) for k in range(many)))


def some_rings(chance, sheet, top, most=3):
    bottom = chance.choice((1, 1, 2, 3))
    sizes = (0, 1, 2, 3, 3, 4, 4, 5, 6, 7)
    return [some_ring(chance, sheet, top, bottom, chance.choice(sizes)) for k in range(chance.randint(1, most))]


# Lands as rings that tell them, and the rings with which they are told, by pairs, on whatever sheet.
SAW = ((0, 0), (4, 0), (4, 4), (3, 1), (2, 4), (1, 1), (0, 4))
TOLD = (
    # a triangle, a square, one with a dent
    ([((0, 0), (3, 0), (0, 2))], [((0, 0), (3, 0), (0, 2))]),
    ([((0, 0), (2, 0), (2, 2), (0, 2))], [((0, 0), (2, 0), (2, 2), (0, 2))]),
    ([SAW], [SAW]),
    # side by side along a side, and along a part of one
    ([((0, 0), (2, 0), (2, 2), (0, 2)), ((2, 0), (4, 0), (4, 2), (2, 2))], [((0, 0), (4, 0), (4, 2), (0, 2))]),
    ([((0, 0), (2, 0), (2, 2), (0, 2)), ((2, 1), (4, 1), (4, 3), (2, 3))],
     [((0, 0), (2, 0), (2, 1), (4, 1), (4, 3), (2, 3), (2, 2), (0, 2))]),
    # one within the other that shares a part of a side, or two of them
    ([((0, 0), (6, 0), (6, 4), (0, 4)), ((1, 0), (3, 0), (3, 2), (1, 2))],
     [((0, 0), (1, 0), (1, 2), (3, 2), (3, 0), (6, 0), (6, 4), (0, 4))]),
    ([((0, 0), (6, 0), (6, 4), (0, 4)), ((1, 0), (3, 0), (3, 4), (1, 4))],
     [((0, 0), (1, 0), (1, 4), (0, 4)), ((3, 0), (6, 0), (6, 4), (3, 4))]),
    # a hole, a land in the hole, two holes, a hole that shares a corner with nothing
    ([((0, 0), (6, 0), (6, 6), (0, 6)), ((1, 1), (3, 1), (3, 3), (1, 3))],
     [((0, 0), (6, 0), (6, 6), (0, 6)), ((1, 1), (1, 3), (3, 3), (3, 1))]),
    ([((0, 0), (9, 0), (9, 9), (0, 9)), ((1, 1), (8, 1), (8, 8), (1, 8)), ((2, 2), (7, 2), (7, 7), (2, 7))],
     [((0, 0), (9, 0), (9, 9), (0, 9)), ((1, 1), (1, 8), (8, 8), (8, 1)), ((2, 2), (7, 2), (7, 7), (2, 7))]),
    ([((0, 0), (9, 0), (9, 9), (0, 9)), ((1, 1), (2, 1), (2, 2)), ((4, 4), (7, 4), (7, 8))],
     [((0, 0), (9, 0), (9, 9), (0, 9)), ((1, 1), (2, 2), (2, 1)), ((4, 4), (7, 8), (7, 4))]),
    # apart
    ([((0, 0), (1, 0), (0, 1)), ((3, 3), (5, 3), (3, 5))], [((0, 0), (1, 0), (0, 1)), ((3, 3), (5, 3), (3, 5))]),
    # a ring that crosses itself, one that goes round twice, one that goes back along itself
    ([((0, 0), (2, 2), (2, 0), (0, 2))], [((0, 0), (1, 1), (0, 2)), ((1, 1), (2, 0), (2, 2))]),
    ([((0, 0), (4, 0), (4, 4), (0, 4), (0, 0), (2, 0), (2, 2), (0, 2))],
     [((2, 0), (4, 0), (4, 4), (0, 4), (0, 2), (2, 2))]),
    ([((0, 0), (2, 0), (5, 0), (2, 0), (2, 2))], [((0, 0), (2, 0), (2, 2))]),
    # rings that cross one another: each keeps to its own wedge at the crossings
    ([((0, 0), (2, 0), (2, 2), (0, 2)), ((1, 1), (3, 1), (3, 3), (1, 3))],
     [((0, 0), (2, 0), (2, 1), (1, 1), (1, 2), (0, 2)), ((1, 2), (2, 2), (2, 1), (3, 1), (3, 3), (1, 3))]),
    ([((0, 1), (3, 1), (3, 2), (0, 2)), ((1, 0), (2, 0), (2, 3), (1, 3))],
     [((0, 1), (1, 1), (1, 2), (0, 2)), ((1, 0), (2, 0), (2, 1), (1, 1)),
      ((2, 1), (3, 1), (3, 2), (2, 2)), ((1, 2), (2, 2), (2, 3), (1, 3))]),
)
# The same, where several wedges meet at a corner.
WEDGES = (
    # two squares that touch at a corner
    ([((0, 0), (2, 0), (2, 2), (0, 2)), ((2, 2), (4, 2), (4, 4), (2, 4))],
     [((0, 0), (2, 0), (2, 2), (0, 2)), ((2, 2), (4, 2), (4, 4), (2, 4))]),
    # the same by a ring that goes straight through the corner, twice
    ([((0, 0), (2, 0), (2, 4), (4, 4), (4, 2), (0, 2))],
     [((0, 0), (2, 0), (2, 2), (0, 2)), ((2, 2), (4, 2), (4, 4), (2, 4))]),
    # three wedges, whose border runs straight through the corner three times
    ([((2, 0), (-2, 0), (0, 2), (0, -2), (-2, -2), (2, 2))],
     [((0, 0), (2, 0), (2, 2)), ((0, 0), (0, 2), (-2, 0)), ((0, 0), (-2, -2), (0, -2))]),
    # a corner that touches a side from without
    ([((0, 0), (4, 0), (4, 2), (0, 2)), ((2, 2), (3, 3), (1, 3))],
     [((0, 0), (4, 0), (4, 2), (0, 2)), ((2, 2), (3, 3), (1, 3))]),
    # a hole that touches a side at a corner: the ring comes there twice
    ([((0, 0), (4, 0), (4, 4), (0, 4)), ((2, 0), (3, 1), (2, 2), (1, 1))],
     [((0, 0), (2, 0), (1, 1), (2, 2), (3, 1), (2, 0), (4, 0), (4, 4), (0, 4))]),
    # a hole that touches a corner
    ([((0, 0), (4, 0), (4, 4), (0, 4)), ((0, 0), (2, 1), (1, 2))],
     [((0, 0), (1, 2), (2, 1), (0, 0), (4, 0), (4, 4), (0, 4))]),
    # two holes that touch one another
    ([((0, 0), (4, 0), (4, 4), (0, 4)), ((1, 1), (2, 1), (2, 2), (1, 2)), ((2, 2), (3, 2), (3, 3), (2, 3))],
     [((0, 0), (4, 0), (4, 4), (0, 4)), ((1, 1), (1, 2), (2, 2), (2, 3), (3, 3), (3, 2), (2, 2), (2, 1))]),
    # a hole that touches the border twice parts the land
    ([((0, 0), (4, 0), (4, 4), (0, 4)), ((2, 0), (3, 2), (2, 4), (1, 2))],
     [((0, 0), (2, 0), (1, 2), (2, 4), (0, 4)), ((2, 0), (4, 0), (4, 4), (2, 4), (3, 2))]),
)
# What tells no points.
NOTHING = (
    [], [()], [((1, 2),)], [((1, 2), (1, 2))], [((0, 0), (3, 1))], [((0, 0), (3, 1), (0, 0))],
    [((0, 0), (1, 1), (3, 3))], [((0, 0), (3, 3), (1, 1), (2, 2), (1, 1), (5, 5))],
    [((0, 2), (0, 7), (0, 2), (0, 5))], [(), ((4, 4),), ((0, 0), (1, 0), (2, 0))],
    [((0, 0), (1, 0), (0, 1)), ((0, 0), (1, 0), (0, 1))], [((0, 0), (1, 0), (0, 1)), ((0, 1), (1, 0), (0, 0))],
    [((0, 0), (1, 0), (0, 1), (0, 0), (1, 0), (0, 1))], [((0, 0), (1, 0), (0, 1), (1, 0))],
    [((0, 0), (2, 0), (2, 2), (0, 2)), ((0, 0), (1, 0), (1, 2), (0, 2)), ((1, 0), (2, 0), (2, 2), (1, 2))],
)


def rings_on(sheet, rings):
    return [sheet.ring(*ring) for ring in rings]


class Of(unittest.TestCase):
    def check(self, sheet, rings, told):
        expected = sheet.land(*told)
        found = land_of(sheet.plane, rings)
        self.assertEqual(found, expected)
        self.assertTrue(is_plain(found) and type(found) is tuple)
        self.assertEqual(land_of(sheet.back, rings), sheet.land_back(*told))

    def test_written_out(self):
        ring = [(0, 0, 0, 1), (2, 0, 0, 1), (2, 2, 0, 1), (0, 2, 0, 1)]
        plane = (0, 0, 1, 0)
        self.assertEqual(
            land_of(plane, [ring]), (plane, (((0, 0, 0, 1), (2, 0, 0, 1), (2, 2, 0, 1), (0, 2, 0, 1)),)))
        self.assertEqual(
            land_of((0, 0, -1, 0), [ring]),
            ((0, 0, -1, 0), (((0, 0, 0, 1), (0, 2, 0, 1), (2, 2, 0, 1), (2, 0, 0, 1)),)))
        slanted = (1, 1, 1, -1)
        three = [(1, 0, 0, 1), (0, 1, 0, 1), (0, 0, 1, 1)]
        self.assertEqual(land_of(slanted, [three]), (slanted, (((0, 0, 1, 1), (1, 0, 0, 1), (0, 1, 0, 1)),)))
        self.assertEqual(
            land_of((-1, -1, -1, 1), [three]), ((-1, -1, -1, 1), (((0, 0, 1, 1), (0, 1, 0, 1), (1, 0, 0, 1)),)))
        # The walks cross at (1/2, 1/2, 0), the least place of the one ring and not of the other one.
        bow = [(0, 0, 0, 1), (1, 1, 0, 1), (1, 0, 0, 1), (0, 1, 0, 1)]
        self.assertEqual(land_of(plane, [bow]), (plane, (
            ((0, 0, 0, 1), (1, 1, 0, 2), (0, 1, 0, 1)), ((1, 0, 0, 1), (1, 1, 0, 1), (1, 1, 0, 2)))))
        hole = [(1, 1, 0, 2), (1, 1, 0, 1), (1, 3, 0, 2)]
        self.assertEqual(land_of(plane, [hole, ring]), (plane, (
            ((0, 0, 0, 1), (2, 0, 0, 1), (2, 2, 0, 1), (0, 2, 0, 1)),
            ((1, 1, 0, 1), (1, 1, 0, 2), (1, 3, 0, 2)))))

    def test_told_ones_on_all_sheets(self):
        for sheet in ALL_SHEETS:
            for rings, told in TOLD + WEDGES:
                self.check(sheet, rings_on(sheet, rings), rings_on(sheet, told))

    def test_no_points(self):
        for sheet in ALL_SHEETS:
            for rings in NOTHING:
                for plane in (sheet.plane, sheet.back):
                    self.assertEqual(land_of(plane, rings_on(sheet, rings)), (plane, ()), rings)
            self.assertEqual(land_of(sheet.plane, ()), (sheet.plane, ()))

    def test_what_tells_no_points_changes_nothing(self):
        for sheet in SHEETS[3:5]:
            for (rings, told), more in product(TOLD[:8], NOTHING):
                self.check(sheet, rings_on(sheet, list(rings) + more), rings_on(sheet, told))
                self.check(sheet, rings_on(sheet, more + list(rings)), rings_on(sheet, told))

    def test_a_ring_several_times(self):
        for sheet in SHEETS:
            for pairs, told in TOLD[:3]:
                ring, = rings_on(sheet, pairs)
                self.check(sheet, [ring], [ring])
                self.check(sheet, [ring, ring], [])
                self.check(sheet, [ring, ring[::-1], ring], [ring])
                self.check(sheet, [ring] * 3, [ring])
                self.check(sheet, [ring] * 4, [])
                self.check(sheet, [ring + ring], [])
                self.check(sheet, [ring + ring + ring], [ring])

    def test_begun_anywhere_either_way_round_in_any_order(self):
        for sheet in SHEETS[2:5]:
            for rings, told in TOLD + WEDGES:
                rings, told = rings_on(sheet, rings), rings_on(sheet, told)
                for k in range(1, 4):
                    moved = [ring[k:] + ring[:k] for ring in rings]
                    self.check(sheet, moved, told)
                    self.check(sheet, [ring[::-1] for ring in moved], told)
                    self.check(sheet, [moved[0][::-1]] + moved[1:], told)
                for order in permutations(rings):
                    self.check(sheet, list(order), told)

    def test_points_that_follow_upon_themselves(self):
        for sheet in SHEETS:
            for rings, told in TOLD:
                doubled = [[p for p in ring for k in range(3)] for ring in rings_on(sheet, rings)]
                self.check(sheet, doubled, rings_on(sheet, told))

    def test_points_straight_on_are_left_out(self):
        for sheet in ALL_SHEETS:
            ring = sheet.ring((0, 0), (1, 0), (HALF, 0), (2, 0), (2, Fraction(2, 3)), (2, 2), (1, 2), (0, 2), (0, 1))
            self.check(sheet, [ring], [sheet.square(0, 0)])

    def test_told_rings_tell_the_same(self):
        for sheet in SHEETS:
            for rings, told in TOLD + WEDGES:
                self.check(sheet, rings_on(sheet, told), rings_on(sheet, told))

    def test_lists_and_tuples(self):
        for sheet in SHEETS:
            for rings, told in TOLD + WEDGES:
                told = rings_on(sheet, told)
                rings = rings_on(sheet, rings)
                for outer, inner in product((list, tuple), repeat=2):
                    self.check(sheet, outer(inner(ring) for ring in rings), told)
                self.check(sheet, [list(ring) if k % 2 else ring for k, ring in enumerate(rings)], told)

    def test_lists_stay_as_they_are(self):
        for sheet in SHEETS[:2] + SHEETS[4:]:
            for rings, told in TOLD + WEDGES:
                handed = [list(ring) for ring in rings_on(sheet, rings)]
                before = copy.deepcopy(handed)
                found = land_of(sheet.plane, handed)
                self.assertEqual(handed, before)
                for ring in handed:
                    ring.append(sheet.at(50, 60))
                handed.append([sheet.at(1, 1), sheet.at(70, 1), sheet.at(1, 80)])
                self.assertEqual(found, sheet.land(*rings_on(sheet, told)))
                self.assertEqual(land_of(sheet.plane, before), found)
                self.assertNotEqual(land_of(sheet.plane, handed), found)
                handed.clear()
                self.assertEqual(land_of(sheet.plane, handed), (sheet.plane, ()))

    def test_great_numbers(self):
        for great in (GREAT, HUGE, LIMIT):
            plane = (0, 0, 1, 0)
            p, q, r, s = (0, 0, 0, 1), (great, 0, 0, great - 1), (great, great, 0, great - 1), (0, great, 0, great - 1)
            self.assertEqual(land_of(plane, [(q, r, s, p)]), (plane, ((p, q, r, s),)))
            middle = point_at(Fraction(great, 2 * great - 2), Fraction(great, 2 * great - 2), 0)
            self.assertEqual(land_of(plane, [(p, r, q, s)]), FLOOR.land((p, middle, s), (middle, q, r)))

    def test_against_another_reckoning(self):
        chance = random.Random(61)
        for k in range(260):
            sheet = SHEETS[k % len(SHEETS)]
            rings = some_rings(chance, sheet, chance.choice((2, 3, 4, 6)))
            plane = chance.choice((sheet.plane, sheet.back))
            self.assertEqual(land_of(plane, rings), land_by_hand(plane, rings), (plane, rings))

    def test_long_rings_that_cross_themselves(self):
        chance = random.Random(62)
        for sheet in (SHEETS[0], SHEETS[4]):
            rings = [some_ring(chance, sheet, 7, 1, 14)]
            found = land_of(sheet.plane, rings)
            self.assertEqual(found, land_by_hand(sheet.plane, rings))
            self.assertTrue(is_land(found))

    def test_two_hundred_rings(self):
        rings = [FLOOR.square(k, k, 1000 - 2 * k) for k in range(200)]
        told = [ring if k % 2 == 0 else ring[::-1] for k, ring in enumerate(rings)]
        self.check(FLOOR, rings, told)

    def test_a_board_of_squares(self):
        squares = [(s, t) for s in range(10) for t in range(10) if (s + t) % 2]
        rings = [FLOOR.square(s, t, 1) for s, t in squares]
        self.check(FLOOR, rings, rings)
        lines = [FLOOR.ring((k, 0), (k + 1, 0), (k + 1, 10), (k, 10)) for k in range(0, 10, 2)]
        lines += [FLOOR.ring((0, k), (10, k), (10, k + 1), (0, k + 1)) for k in range(0, 10, 2)]
        self.check(FLOOR, lines, rings)


class OffThePlane(unittest.TestCase):
    def test_at_any_place(self):
        for sheet in ALL_SHEETS:
            good = [sheet.square(0, 0), sheet.ring((5, 5), (6, 5), (7, 8), (5, 7)), (), sheet.ring((1, 1))]
            self.assertTrue(land_of(sheet.plane, good)[1])
            for bad in (sheet.off(0, 0), sheet.off(3, 1, -2), sheet.off(0, 0, Fraction(1, GREAT))):
                for at, ring in enumerate(good):
                    for to in range(len(ring) + 1):
                        rings = list(good)
                        rings[at] = ring[:to] + (bad,) + ring[to:]
                        self.refused(sheet, rings)

    def test_in_rings_without_points(self):
        for sheet in ALL_SHEETS:
            bad, good = sheet.off(0, 0), sheet.at(1, 0)
            for ring in ((bad,), (bad, bad), (good, bad), (good, bad, good), (good, good, bad, good)):
                self.refused(sheet, [ring])
                self.refused(sheet, [ring, ring])
                self.refused(sheet, [sheet.square(0, 0), ring, ring[::-1]])

    def test_another_plane(self):
        one, other = SHEETS[0], SHEETS[4]
        with self.assertRaises(OffPlane):
            land_of(one.plane, [other.square(0, 0)])
        with self.assertRaises(OffPlane):
            land_of((0, 0, 1, -1), [one.square(0, 0)])

    def refused(self, sheet, rings):
        for plane in (sheet.plane, sheet.back):
            for handed in (rings, tuple(rings), [list(ring) for ring in rings]):
                with self.assertRaises(OffPlane) as caught:
                    land_of(plane, handed)
                self.assertIsInstance(caught.exception, YardError)


class Told(unittest.TestCase):
    def test_begun_at_the_least_place_of_a_point_that_comes_twice(self):
        plane = (0, 0, 1, 0)
        found = land_of(plane, rings_on(FLOOR, WEDGES[5][0]))
        self.assertEqual(found, (plane, ((
            (0, 0, 0, 1), (1, 2, 0, 1), (2, 1, 0, 1), (0, 0, 0, 1), (4, 0, 0, 1), (4, 4, 0, 1), (0, 4, 0, 1)),)))
        # Turned over the other one of the two places has the lesser rest behind it.
        turned = land_of((0, 0, -1, 0), rings_on(FLOOR, WEDGES[5][0]))
        self.assertEqual(turned, ((0, 0, -1, 0), ((
            (0, 0, 0, 1), (0, 4, 0, 1), (4, 4, 0, 1), (4, 0, 0, 1), (0, 0, 0, 1), (2, 1, 0, 1), (1, 2, 0, 1)),)))

    def test_least_is_not_leftmost(self):
        # (1, 0, 0, 1) is less than (3, 0, 0, 4), which lies farther left, and (-1, 0, 0, 1) less than (-3, 0, 0, 2).
        plane = (0, 0, 1, 0)
        ring = ((3, 0, 0, 4), (1, 0, 0, 1), (1, 1, 0, 1))
        self.assertEqual(land_of(plane, [ring]), (plane, (((1, 0, 0, 1), (1, 1, 0, 1), (3, 0, 0, 4)),)))
        rings = [((3, 0, 0, 4), (1, 0, 0, 1), (9, 5, 0, 10)), ((2, 0, 0, 1), (5, 0, 0, 2), (2, 1, 0, 1))]
        self.assertEqual(
            land_of(plane, rings[::-1]),
            (plane, (((1, 0, 0, 1), (9, 5, 0, 10), (3, 0, 0, 4)), ((2, 0, 0, 1), (5, 0, 0, 2), (2, 1, 0, 1)))))

    def test_the_rings_are_sorted(self):
        chance = random.Random(63)
        for sheet in SHEETS:
            found = land_of(sheet.plane, [some_ring(chance, sheet, 9, 2, 12)])
            self.assertGreater(len(found[1]), 2)
            self.assertEqual(list(found[1]), sorted(found[1]))
            for ring in found[1]:
                self.assertEqual(ring, min(ring[k:] + ring[:k] for k in range(len(ring))))

    def test_the_land_is_on_the_left_of_each_side_and_not_on_the_right(self):
        chance = random.Random(64)
        for k in range(40):
            sheet = SHEETS[k % len(SHEETS)]
            rings = some_rings(chance, sheet, 5)
            plane, told = land_of(sheet.plane, rings)
            for ring in told:
                for p, q in zip(ring, ring[1:] + ring[:1]):
                    # No corner touches the side just here.
                    spot = [a + (b - a) * Fraction(12347, 98765) for a, b in zip(measures(p), measures(q))]
                    left = crossed(plane, [b - a for a, b in zip(measures(p), measures(q))])
                    for step, expected in ((Fraction(1, 10 ** 20), 1), (Fraction(-1, 10 ** 20), -1)):
                        near = point_at(*(a + step * b for a, b in zip(spot, left)))
                        self.assertEqual(place_by_hand(plane, rings, near), expected)

    def test_the_same_land_in_several_ways(self):
        for sheet in SHEETS:
            square = sheet.land(sheet.square(0, 0, 6))
            for rings in (
                [sheet.square(0, 0, 3), sheet.square(3, 0, 3), sheet.square(0, 3, 3), sheet.square(3, 3, 3)],
                [sheet.ring((0, 0), (6, 0), (6, 6)), sheet.ring((0, 0), (0, 6), (6, 6))],
                [sheet.ring((0, 0), (6, 0), (2, 3)), sheet.ring((6, 0), (6, 6), (2, 3)),
                 sheet.ring((6, 6), (0, 6), (2, 3)), sheet.ring((0, 6), (0, 0), (2, 3))],
                [sheet.square(0, 0, 12), sheet.ring((6, 0), (12, 0), (12, 12), (0, 12), (0, 6), (6, 6))],
            ):
                self.assertEqual(land_of(sheet.plane, rings), square)


class IsLand(unittest.TestCase):
    def test_of_what_land_of_gives(self):
        for sheet in ALL_SHEETS:
            for rings, told in TOLD + WEDGES:
                for plane in (sheet.plane, sheet.back):
                    self.assertIs(is_land(land_of(plane, rings_on(sheet, rings))), True)
            self.assertIs(is_land((sheet.plane, ())), True)
            self.assertIs(is_land((sheet.back, ())), True)

    def test_begun_elsewhere(self):
        for sheet in SHEETS:
            for rings, told in TOLD + WEDGES:
                plane, told = sheet.land(*rings_on(sheet, told))
                for at, ring in enumerate(told):
                    for k in range(1, len(ring)):
                        moved = told[:at] + (ring[k:] + ring[:k],) + told[at + 1:]
                        self.assertIs(is_land((plane, moved)), False)
                        self.assertIs(is_land((plane, tuple(sorted(moved)))), False)

    def test_turned_round(self):
        for sheet in SHEETS:
            for rings, told in TOLD + WEDGES:
                plane, told = sheet.land(*rings_on(sheet, told))
                for at, ring in enumerate(told):
                    turned = tuple(sorted(told[:at] + (min(
                        ring[::-1][k:] + ring[::-1][:k] for k in range(len(ring))),) + told[at + 1:]))
                    self.assertIs(is_land((plane, turned)), False)
                self.assertIs(is_land((sheet.back, told)), False)

    def test_not_sorted(self):
        for sheet in SHEETS:
            for rings, told in TOLD + WEDGES:
                plane, told = sheet.land(*rings_on(sheet, told))
                for order in permutations(told):
                    self.assertIs(is_land((plane, order)), order == told)

    def test_a_point_straight_on_or_twice(self):
        for sheet in SHEETS:
            ring = sheet.land(sheet.square(0, 0))[1][0]
            for at in range(4):
                between = point_at(*((a + b) / 2 for a, b in zip(measures(ring[at - 1]), measures(ring[at]))))
                for more in (between, ring[at], ring[at - 1]):
                    longer = ring[:at] + (more,) + ring[at:]
                    for k in range(5):
                        self.assertIs(is_land((sheet.plane, (longer[k:] + longer[:k],))), False)

    def test_off_the_plane(self):
        for sheet in ALL_SHEETS:
            ring = sheet.land(sheet.square(0, 0))[1][0]
            for at in range(4):
                for bad in (sheet.off(0, 0), sheet.off(0, 0, Fraction(-1, GREAT))):
                    self.assertIs(is_land((sheet.plane, (ring[:at] + (bad,) + ring[at + 1:],))), False)
            self.assertIs(is_land((sheet.plane, ((sheet.off(1, 1),),))), False)
            self.assertIs(is_land((sheet.plane, (tuple(sheet.off(*pair) for pair in ((0, 0), (1, 0), (0, 1))),))), False)
        self.assertIs(is_land(((0, 0, 1, -1), FLOOR.land(FLOOR.square(0, 0))[1])), False)

    def test_rings_that_cross_or_tell_no_points(self):
        for sheet in SHEETS:
            for rings, told in TOLD[3:7] + TOLD[11:] + WEDGES[1:3] + WEDGES[4:]:
                self.assertIs(is_land(sheet.land(*rings_on(sheet, rings))), False)
            square = sheet.square(0, 0)
            for rings in (
                [square, square], [square] * 3, [()], [(), square], [square, sheet.ring((1, 1))],
                [sheet.ring((1, 1))], [sheet.ring((0, 0), (1, 1))], [sheet.ring((0, 0), (1, 1), (2, 2))],
                [sheet.square(0, 0), sheet.square(1, 1)], [sheet.square(0, 0, 6), sheet.square(1, 1)],
            ):
                told = tuple(sorted(least for least in (min(
                    [ring[k:] + ring[:k] for k in range(len(ring))], default=()) for ring in rings)))
                self.assertIs(is_land((sheet.plane, told)), False)

    def test_walks_that_leave_their_wedge(self):
        for sheet in SHEETS:
            for rings in (
                # two squares that touch, gone round in one walk
                [((0, 0), (2, 0), (2, 2), (4, 2), (4, 4), (2, 4), (2, 2), (0, 2))],
                # a hole that touches the border, gone round by itself
                [((0, 0), (4, 0), (4, 4), (0, 4)), ((2, 0), (1, 1), (2, 2), (3, 1))],
                [((0, 0), (4, 0), (4, 4), (0, 4)), ((0, 0), (1, 2), (2, 1))],
                # two holes that touch, each by itself
                [((0, 0), (4, 0), (4, 4), (0, 4)), ((1, 1), (1, 2), (2, 2), (2, 1)), ((2, 2), (2, 3), (3, 3), (3, 2))],
            ):
                self.assertIs(is_land(sheet.land(*rings_on(sheet, rings))), False)


class Over(unittest.TestCase):
    def test_the_same_points_from_the_other_side(self):
        for sheet in ALL_SHEETS:
            for rings, told in TOLD + WEDGES:
                told = rings_on(sheet, told)
                self.assertEqual(land_over(sheet.land(*told)), sheet.land_back(*told))
                self.assertEqual(land_over(sheet.land_back(*told)), sheet.land(*told))
            self.assertEqual(land_over((sheet.plane, ())), (sheet.back, ()))

    def test_twice_over_is_the_land(self):
        chance = random.Random(65)
        for k in range(60):
            sheet = SHEETS[k % len(SHEETS)]
            rings = some_rings(chance, sheet, 5)
            land = land_of(sheet.plane, rings)
            turned = land_over(land)
            self.assertEqual(turned, land_of(sheet.back, rings))
            self.assertTrue(is_land(turned) and is_plain(turned))
            self.assertEqual(land_over(turned), land)


class Place(unittest.TestCase):
    def place(self, land, p):
        found = land_place(land, p)
        self.assertIs(type(found), int)
        self.assertEqual(land_place(land_over(land), p), found)
        return found

    def test_told_ones(self):
        for sheet in ALL_SHEETS:
            outer, inner = sheet.square(0, 0, 6), sheet.square(2, 2, 2)
            land = land_of(sheet.plane, [outer, inner])
            for pair, expected in (
                ((1, 1), 1), ((5, 3), 1), ((HALF, 3), 1), ((3, 1), 1), ((Fraction(1, GREAT), 3), 1),
                ((3, 3), -1), ((Fraction(5, 2), 3), -1), ((2 + Fraction(1, GREAT), 3), -1),
                ((-1, 3), -1), ((7, 3), -1), ((3, -1), -1), ((3, 7), -1), ((7, 6), -1), ((-1, 0), -1), ((8, 2), -1),
                ((-Fraction(1, GREAT), 3), -1), ((6 + Fraction(1, GREAT), 6), -1),
                ((0, 0), 0), ((6, 6), 0), ((2, 4), 0), ((4, 4), 0), ((0, 3), 0), ((3, 0), 0), ((6, HALF), 0),
                ((3, 2), 0), ((2, 3), 0), ((4, Fraction(7, 2)), 0),
            ):
                self.assertEqual(self.place(land, sheet.at(*pair)), expected, pair)

    def test_in_line_with_sides_and_corners(self):
        for sheet in SHEETS:
            land = land_of(sheet.plane, [sheet.ring(*SAW)])
            for pair, expected in (
                ((1, 1), 0), ((3, 1), 0), ((2, 4), 0), ((2, 1), 1), ((HALF, 1), 1), ((HALF, 2), 1), ((1, 2), -1),
                ((3, 2), -1), ((3, 4), -1), ((1, 4), -1), ((-1, 1), -1), ((-1, 4), -1), ((5, 0), -1), ((2, 5), -1),
                ((4, 5), -1), ((-1, 0), -1), ((1, 0), 0), ((1, HALF), 1), ((3, HALF), 1), ((5, 1), -1), ((2, 2), 1),
            ):
                self.assertEqual(self.place(land, sheet.at(*pair)), expected, pair)

    def test_where_wedges_meet(self):
        for sheet in SHEETS:
            for rings, told in WEDGES:
                rings = rings_on(sheet, rings)
                land = land_of(sheet.plane, rings)
                for s, t in product(range(-5, 11), repeat=2):
                    p = sheet.at(Fraction(s, 2), Fraction(t, 2))
                    self.assertEqual(self.place(land, p), place_by_hand(sheet.plane, land[1], p))

    def test_the_count_of_the_rings(self):
        chance = random.Random(66)
        for k in range(60):
            sheet = SHEETS[k % len(SHEETS)]
            rings = some_rings(chance, sheet, 5)
            land = land_of(sheet.plane, rings)
            for n in range(12):
                p = sheet.at(Fraction(chance.randint(-3, 31), 6), Fraction(chance.randint(-3, 31), 6))
                place = place_by_hand(sheet.plane, rings, p)
                if place:
                    self.assertEqual(self.place(land, p), place)
                else:
                    self.assertEqual(self.place(land, p), place_by_hand(sheet.plane, land[1], p))

    def test_no_points(self):
        for sheet in ALL_SHEETS:
            self.assertEqual(land_place((sheet.plane, ()), sheet.at(0, 0)), -1)
            self.assertEqual(land_place((sheet.back, ()), sheet.at(3, HALF)), -1)

    def test_off_the_plane_is_refused(self):
        for sheet in ALL_SHEETS:
            for land in (sheet.land(sheet.square(0, 0, 6)), (sheet.plane, ()), sheet.land_back(sheet.square(0, 0))):
                for bad in (sheet.off(0, 0), sheet.off(1, 1, -3), sheet.off(9, 9), sheet.off(1, 1, Fraction(1, GREAT))):
                    with self.assertRaises(OffPlane) as caught:
                        land_place(land, bad)
                    self.assertIsInstance(caught.exception, YardError)


class Spread(unittest.TestCase):
    def expected(self, sheet, size):
        """What size squares of the sheet come to."""
        axis = next(k for k in range(3) if sheet.plane[k])
        worth = Fraction(size) * crossed(sheet.first, sheet.second)[axis] / sheet.plane[axis]
        return worth.numerator, worth.denominator

    def check(self, sheet, rings, size):
        land = land_of(sheet.plane, rings_on(sheet, rings))
        found = spread(land)
        self.assertEqual(found, self.expected(sheet, size))
        self.assertTrue(is_numbers(found, 2))
        self.assertEqual(spread(land_over(land)), found)

    def test_told_ones(self):
        for sheet in ALL_SHEETS:
            for (rings, told), size in zip(TOLD + WEDGES, (
                3, 4, 10, 8, 8, 20, 16, 32, 57, Fraction(149, 2), Fraction(5, 2), 2, 12, 2, 6, 4,
                8, 8, 6, 9, 14, Fraction(29, 2), 14, 12,
            ), strict=True):
                self.check(sheet, rings, size)

    def test_written_out(self):
        self.assertEqual(spread(((0, 0, 1, 0), (((0, 0, 0, 1), (1, 0, 0, 1), (0, 1, 0, 1)),))), (1, 2))
        self.assertEqual(spread(((0, 0, -1, 0), (((0, 0, 0, 1), (0, 1, 0, 1), (1, 0, 0, 1)),))), (1, 2))
        self.assertEqual(spread(((1, 1, 1, -1), (((0, 0, 1, 1), (1, 0, 0, 1), (0, 1, 0, 1)),))), (1, 2))
        self.assertEqual(spread(((2, 2, 2, -1), (((0, 0, 1, 2), (1, 0, 0, 2), (0, 1, 0, 2)),))), (1, 16))
        self.assertEqual(spread(((-3, 0, 0, 1), (((1, 0, 0, 3), (1, 0, 6, 3), (1, 3, 0, 3)),))), (1, 3))

    def test_no_points(self):
        for sheet in ALL_SHEETS:
            self.assertEqual(spread((sheet.plane, ())), (0, 1))
            self.assertEqual(spread((sheet.back, ())), (0, 1))

    def test_above_nought_but_for_no_points(self):
        chance = random.Random(67)
        for k in range(60):
            sheet = SHEETS[k % len(SHEETS)]
            land = land_of(chance.choice((sheet.plane, sheet.back)), some_rings(chance, sheet, 5))
            self.assertEqual(spread(land)[0] > 0, land[1] != ())

    def test_spreads_of_two_lands_apart_come_to_that_of_both(self):
        for sheet in (SHEETS[4], Sheet((0, 0, 0), (GREAT, 1, 0), (0, 1, HUGE))):
            one, other = sheet.square(0, 0, 3), sheet.ring((5, 0), (7, 1), (6, HALF))
            worths = [Fraction(*spread(land_of(sheet.plane, rings))) for rings in ([one], [other], [one, other])]
            self.assertEqual(worths[0] + worths[1], worths[2])


if __name__ == "__main__":
    unittest.main()
