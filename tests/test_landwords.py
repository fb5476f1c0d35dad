"""The four words of lands: [23]."""

import random
import unittest
from fractions import Fraction

from solidyard.errors import OtherPlane, YardError
from solidyard.lands import is_land, land_of, land_place, spread
from solidyard.landwords import land_common, land_either, land_joined, land_less
from tests.helper import SHEETS, great_sheets, is_plain, land_by_hand

WORDS = (
    (land_joined, lambda in_one, in_other: in_one or in_other),
    (land_common, lambda in_one, in_other: in_one and in_other),
    (land_less, lambda in_one, in_other: in_one and not in_other),
    (land_either, lambda in_one, in_other: in_one != in_other),
)
ALL_SHEETS = SHEETS + tuple(great_sheets())


def square(s, t, size=2):
    return ((s, t), (s + size, t), (s + size, t + size), (s, t + size))


HOLED = [square(0, 0, 6), square(2, 2)[::-1]]
# Rings of two lands, and those of joined, common, the first less the second, the second less the first, either.
CASES = (
    # they overlap
    ([square(0, 0)], [square(1, 1)], [((0, 0), (2, 0), (2, 1), (3, 1), (3, 3), (1, 3), (1, 2), (0, 2))],
     [square(1, 1, 1)], [((0, 0), (2, 0), (2, 1), (1, 1), (1, 2), (0, 2))],
     [((2, 1), (3, 1), (3, 3), (1, 3), (1, 2), (2, 2))],
     [((0, 0), (2, 0), (2, 1), (1, 1), (1, 2), (0, 2)), ((2, 1), (3, 1), (3, 3), (1, 3), (1, 2), (2, 2))]),
    ([((0, 1), (3, 1), (3, 2), (0, 2))], [((1, 0), (2, 0), (2, 3), (1, 3))],
     [((0, 1), (1, 1), (1, 0), (2, 0), (2, 1), (3, 1), (3, 2), (2, 2), (2, 3), (1, 3), (1, 2), (0, 2))],
     [square(1, 1, 1)], [square(0, 1, 1), square(2, 1, 1)], [square(1, 0, 1), square(1, 2, 1)],
     [square(0, 1, 1), square(2, 1, 1), square(1, 0, 1), square(1, 2, 1)]),
    # they touch along a side, along a part of one, at a corner
    ([square(0, 0)], [square(2, 0)], [((0, 0), (4, 0), (4, 2), (0, 2))], [], [square(0, 0)], [square(2, 0)],
     [((0, 0), (4, 0), (4, 2), (0, 2))]),
    ([square(0, 0)], [square(2, 1)], [((0, 0), (2, 0), (2, 1), (4, 1), (4, 3), (2, 3), (2, 2), (0, 2))], [],
     [square(0, 0)], [square(2, 1)], [((0, 0), (2, 0), (2, 1), (4, 1), (4, 3), (2, 3), (2, 2), (0, 2))]),
    ([square(0, 0)], [square(2, 2)], [square(0, 0), square(2, 2)], [], [square(0, 0)], [square(2, 2)],
     [square(0, 0), square(2, 2)]),
    # they are apart
    ([square(0, 0)], [square(5, 0)], [square(0, 0), square(5, 0)], [], [square(0, 0)], [square(5, 0)],
     [square(0, 0), square(5, 0)]),
    # the second lies within the first, off its border, at a side, in a corner, across
    ([square(0, 0, 6)], [square(2, 2)], [square(0, 0, 6)], [square(2, 2)], HOLED, [], HOLED),
    ([square(0, 0, 6)], [square(2, 0)], [square(0, 0, 6)], [square(2, 0)],
     [((0, 0), (2, 0), (2, 2), (4, 2), (4, 0), (6, 0), (6, 6), (0, 6))], [],
     [((0, 0), (2, 0), (2, 2), (4, 2), (4, 0), (6, 0), (6, 6), (0, 6))]),
    ([square(0, 0, 6)], [square(0, 0)], [square(0, 0, 6)], [square(0, 0)],
     [((2, 0), (6, 0), (6, 6), (0, 6), (0, 2), (2, 2))], [], [((2, 0), (6, 0), (6, 6), (0, 6), (0, 2), (2, 2))]),
    ([square(0, 0, 6)], [((2, 0), (4, 0), (4, 6), (2, 6))], [square(0, 0, 6)], [((2, 0), (4, 0), (4, 6), (2, 6))],
     [((0, 0), (2, 0), (2, 6), (0, 6)), ((4, 0), (6, 0), (6, 6), (4, 6))], [],
     [((0, 0), (2, 0), (2, 6), (0, 6)), ((4, 0), (6, 0), (6, 6), (4, 6))]),
    # the second fills the hole of the first, in all or in part
    (HOLED, [square(2, 2)], [square(0, 0, 6)], [], HOLED, [square(2, 2)], [square(0, 0, 6)]),
    (HOLED, [square(2, 2, 1)], [square(0, 0, 6), ((3, 2), (3, 3), (2, 3), (2, 4), (4, 4), (4, 2))], [], HOLED,
     [square(2, 2, 1)], [square(0, 0, 6), ((3, 2), (3, 3), (2, 3), (2, 4), (4, 4), (4, 2))]),
    # they are the same
    ([square(0, 0)], [square(0, 0)], [square(0, 0)], [square(0, 0)], [], [], []),
    (HOLED, HOLED, HOLED, HOLED, [], [], []),
    # one has no points, or both
    (HOLED, [], HOLED, [], HOLED, [], HOLED),
    ([], [], [], [], [], [], []),
)


def some_land(chance, sheet):
    bottom = chance.choice((1, 1, 2))
    rings = []
    for k in range(chance.randint(1, 2)):
        rings.append(sheet.ring(*(
            (Fraction(chance.randint(0, 4), bottom), Fraction(chance.randint(0, 4), bottom))
            for n in range(chance.choice((3, 4, 4, 5, 6))))))
    return land_of(sheet.plane, rings)


class Words(unittest.TestCase):
    def test_told_ones(self):
        for sheet in ALL_SHEETS:
            for case in CASES:
                for told in (sheet.land, sheet.land_back):
                    one, other, both, shared, first, second, apart = (
                        told(*(sheet.ring(*ring) for ring in rings)) for rings in case)
                    self.assertEqual(land_joined(one, other), both)
                    self.assertEqual(land_joined(other, one), both)
                    self.assertEqual(land_common(one, other), shared)
                    self.assertEqual(land_common(other, one), shared)
                    self.assertEqual(land_less(one, other), first)
                    self.assertEqual(land_less(other, one), second)
                    self.assertEqual(land_either(one, other), apart)
                    self.assertEqual(land_either(other, one), apart)

    def test_written_out(self):
        plane = (0, 0, 1, 0)
        one = (plane, (((0, 0, 0, 1), (1, 0, 0, 1), (0, 1, 0, 1)),))
        other = (plane, (((0, 0, 0, 1), (1, 0, 0, 1), (1, 1, 0, 1)),))
        self.assertEqual(land_common(one, other), (plane, (((0, 0, 0, 1), (1, 0, 0, 1), (1, 1, 0, 2)),)))
        self.assertEqual(land_less(one, other), (plane, (((0, 0, 0, 1), (1, 1, 0, 2), (0, 1, 0, 1)),)))
        self.assertEqual(land_joined(one, other), (plane, ((
            (0, 0, 0, 1), (1, 0, 0, 1), (1, 1, 0, 1), (1, 1, 0, 2), (0, 1, 0, 1)),)))
        self.assertEqual(land_either(one, other), (plane, (
            ((0, 0, 0, 1), (1, 1, 0, 2), (0, 1, 0, 1)), ((1, 0, 0, 1), (1, 1, 0, 1), (1, 1, 0, 2)))))

    def test_point_by_point(self):
        chance = random.Random(71)
        for k in range(50):
            sheet = SHEETS[k % len(SHEETS)]
            one, other = some_land(chance, sheet), some_land(chance, sheet)
            made = [word(one, other) for word, keeps in WORDS]
            for n in range(20):
                p = sheet.at(Fraction(chance.randint(-2, 26), 6), Fraction(chance.randint(-2, 26), 6))
                places = land_place(one, p), land_place(other, p)
                if 0 in places:
                    continue
                for land, (word, keeps) in zip(made, WORDS):
                    expected = 1 if keeps(places[0] == 1, places[1] == 1) else -1
                    self.assertEqual(land_place(land, p), expected, (word, one, other, p))

    def test_told_as_lands_are(self):
        chance = random.Random(72)
        for k in range(30):
            sheet = SHEETS[k % len(SHEETS)]
            one, other = some_land(chance, sheet), some_land(chance, sheet)
            for word, keeps in WORDS:
                made = word(one, other)
                self.assertTrue(is_plain(made) and is_land(made))
                self.assertEqual(made, land_by_hand(sheet.plane, made[1]))
            self.assertEqual(land_either(one, other), land_of(sheet.plane, one[1] + other[1]))

    def test_what_holds_of_all_lands(self):
        chance = random.Random(73)
        for k in range(40):
            sheet = SHEETS[k % len(SHEETS)]
            one, other, third = (some_land(chance, sheet) for n in range(3))
            both, shared, apart = land_joined(one, other), land_common(one, other), land_either(one, other)
            self.assertEqual(land_less(both, shared), apart)
            self.assertEqual(land_joined(land_less(one, other), shared), one)
            self.assertEqual(land_joined(both, third), land_joined(one, land_joined(other, third)))
            self.assertEqual(land_common(shared, third), land_common(one, land_common(other, third)))
            self.assertEqual(land_common(both, third), land_joined(land_common(one, third), land_common(other, third)))
            worths = [Fraction(*spread(land)) for land in (one, other, both, shared)]
            self.assertEqual(worths[0] + worths[1], worths[2] + worths[3])

    def test_lands_stay_as_they_are(self):
        sheet = SHEETS[4]
        one, other = sheet.land(sheet.square(0, 0)), sheet.land(sheet.square(1, 1))
        for word, keeps in WORDS:
            word(one, other)
            self.assertEqual((one, other), (sheet.land(sheet.square(0, 0)), sheet.land(sheet.square(1, 1))))


class OtherPlanes(unittest.TestCase):
    def refused(self, one, other):
        for word, keeps in WORDS:
            for handed in ((one, other), (other, one)):
                with self.assertRaises(OtherPlane) as caught:
                    word(*handed)
                self.assertIsInstance(caught.exception, YardError)

    def test_a_plane_and_the_same_turned_over(self):
        for sheet in ALL_SHEETS:
            ring = sheet.square(0, 0)
            self.refused(sheet.land(ring), sheet.land_back(ring))
            self.refused(sheet.land(ring), (sheet.back, ()))
            self.refused((sheet.plane, ()), sheet.land_back(ring))
            self.refused((sheet.plane, ()), (sheet.back, ()))

    def test_other_planes(self):
        for one in SHEETS:
            for other in SHEETS:
                if one != other:
                    self.refused(one.land(one.square(0, 0)), other.land(other.square(0, 0)))
                    self.refused((one.plane, ()), (other.plane, ()))
        self.refused(((0, 0, 1, 0), ()), ((0, 0, 1, 1), ()))


if __name__ == "__main__":
    unittest.main()
