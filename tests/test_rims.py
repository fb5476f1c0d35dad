"""Lands cut by planes: [24] and [25]."""

import random
import unittest
from fractions import Fraction

from solidyard.lands import is_land, land_of, land_place
from solidyard.landwords import land_common, land_joined
from solidyard.lines import line_common
from solidyard.rims import land_part, rim, trace
from solidyard.rows import row_place
from tests.helper import SHEETS, crossed, dotted, great_sheets, is_plain, measures, minus, point_at, whole

ALL_SHEETS = SHEETS + tuple(great_sheets())
THIRD = Fraction(1, 3)
SAW = ((0, 0), (4, 0), (4, 4), (3, 1), (2, 4), (1, 1), (0, 4))
SQUARE = ((0, 0), (4, 0), (4, 4), (0, 4))
HOLED = [((0, 0), (6, 0), (6, 6), (0, 6)), ((2, 2), (4, 2), (4, 4), (2, 4))]
STEPS = [((0, 0), (4, 0), (4, 2), (0, 2)), ((2, -2), (6, -2), (6, 0), (2, 0))]
# Rings of a land, two pairs on a line, and the stretches right at the left of the line and right at its right.
CUT = (
    # the line crosses the land, comes through its corners, through one corner
    ([SQUARE], ((0, 2), (4, 2)), [((0, 2), (4, 2))], [((0, 2), (4, 2))]),
    ([SQUARE], ((9, 1), (-3, 1)), [((0, 1), (4, 1))], [((0, 1), (4, 1))]),
    ([SQUARE], ((0, 0), (1, 1)), [((0, 0), (4, 4))], [((0, 0), (4, 4))]),
    ([SQUARE], ((0, 0), (1, 2)), [((0, 0), (2, 4))], [((0, 0), (2, 4))]),
    # the land lies along the line, at its left, at its right
    ([SQUARE], ((0, 0), (4, 0)), [((0, 0), (4, 0))], []),
    ([SQUARE], ((4, 0), (0, 0)), [], [((0, 0), (4, 0))]),
    ([SQUARE], ((1, 4), (2, 4)), [], [((0, 4), (4, 4))]),
    ([SQUARE], ((4, -1), (4, 7)), [((4, 0), (4, 4))], []),
    # it touches it at a corner, or not at all
    ([SQUARE], ((0, 0), (1, -1)), [], []),
    ([SQUARE], ((4, 4), (3, 5)), [], []),
    ([SQUARE], ((0, 5), (1, 5)), [], []),
    ([SQUARE], ((-1, 0), (-1, 1)), [], []),
    ([], ((0, 0), (1, 0)), [], []),
    # corners on the line with the land at both sides of them, and tips
    ([SAW], ((0, 1), (1, 1)), [((0, 1), (4, 1))], [((0, 1), (4, 1))]),
    ([SAW], ((0, 4), (4, 4)), [], []),
    ([SAW], ((2, 0), (2, 1)), [((2, 0), (2, 4))], [((2, 0), (2, 4))]),
    ([SAW], ((0, 2), (1, 2)), [((0, 2), (2 * THIRD, 2)), ((4 * THIRD, 2), (8 * THIRD, 2)), ((10 * THIRD, 2), (4, 2))],
     [((0, 2), (2 * THIRD, 2)), ((4 * THIRD, 2), (8 * THIRD, 2)), ((10 * THIRD, 2), (4, 2))]),
    # a hole: across it, along its sides, at its corner
    (HOLED, ((0, 3), (1, 3)), [((0, 3), (2, 3)), ((4, 3), (6, 3))], [((0, 3), (2, 3)), ((4, 3), (6, 3))]),
    (HOLED, ((0, 2), (1, 2)), [((0, 2), (2, 2)), ((4, 2), (6, 2))], [((0, 2), (6, 2))]),
    (HOLED, ((0, 4), (1, 4)), [((0, 4), (6, 4))], [((0, 4), (2, 4)), ((4, 4), (6, 4))]),
    (HOLED, ((0, 4), (2, 2)), [((4, 0), (0, 4))], [((4, 0), (0, 4))]),
    (HOLED, ((0, 0), (2, 2)), [((0, 0), (2, 2)), ((4, 4), (6, 6))], [((0, 0), (2, 2)), ((4, 4), (6, 6))]),
    # the land lies on both sides of the line, by parts
    (STEPS, ((0, 0), (1, 0)), [((0, 0), (4, 0))], [((2, 0), (6, 0))]),
    ([((0, 0), (2, 0), (2, 2), (0, 2)), ((2, 0), (2, -2), (4, -2), (4, 0))], ((0, 0), (1, 0)),
     [((0, 0), (2, 0))], [((2, 0), (4, 0))]),
)
# Rings of a land, two pairs on a line, and the rings of the parts at its left and at its right.
PARTED = (
    ([SQUARE], ((0, 2), (4, 2)), [((0, 2), (4, 2), (4, 4), (0, 4))], [((0, 0), (4, 0), (4, 2), (0, 2))]),
    ([SQUARE], ((0, 0), (1, 1)), [((0, 0), (4, 4), (0, 4))], [((0, 0), (4, 0), (4, 4))]),
    ([SQUARE], ((0, 0), (1, 2)), [((0, 0), (2, 4), (0, 4))], [((0, 0), (4, 0), (4, 4), (2, 4))]),
    ([SQUARE], ((0, 0), (4, 0)), [SQUARE], []),
    ([SQUARE], ((1, 4), (2, 4)), [], [SQUARE]),
    ([SQUARE], ((0, 0), (1, -1)), [SQUARE], []),
    ([SQUARE], ((0, 5), (1, 5)), [], [SQUARE]),
    ([SQUARE], ((0, -2), (1, -2)), [SQUARE], []),
    ([], ((0, 0), (1, 0)), [], []),
    ([SAW], ((0, 2), (1, 2)),
     [((0, 2), (2 * THIRD, 2), (0, 4)), ((4 * THIRD, 2), (8 * THIRD, 2), (2, 4)), ((10 * THIRD, 2), (4, 2), (4, 4))],
     [((0, 0), (4, 0), (4, 2), (10 * THIRD, 2), (3, 1), (8 * THIRD, 2), (4 * THIRD, 2), (1, 1), (2 * THIRD, 2),
       (0, 2))]),
    ([SAW], ((0, 1), (1, 1)), [((0, 1), (1, 1), (0, 4)), ((1, 1), (3, 1), (2, 4)), ((3, 1), (4, 1), (4, 4))],
     [((0, 0), (4, 0), (4, 1), (0, 1))]),
    (HOLED, ((0, 3), (1, 3)), [((0, 3), (2, 3), (2, 4), (4, 4), (4, 3), (6, 3), (6, 6), (0, 6))],
     [((0, 0), (6, 0), (6, 3), (4, 3), (4, 2), (2, 2), (2, 3), (0, 3))]),
    (HOLED, ((0, 2), (1, 2)), [((0, 2), (2, 2), (2, 4), (4, 4), (4, 2), (6, 2), (6, 6), (0, 6))],
     [((0, 0), (6, 0), (6, 2), (0, 2))]),
    (HOLED, ((0, 1), (1, 1)), [((0, 1), (6, 1), (6, 6), (0, 6)), ((2, 2), (2, 4), (4, 4), (4, 2))],
     [((0, 0), (6, 0), (6, 1), (0, 1))]),
    (STEPS, ((0, 0), (1, 0)), STEPS[:1], STEPS[1:]),
)


def leaning(sheet, one, other, step=1):
    """A plane with the line of two pairs in common with the sheet, whose front is at the left; step tells its slope."""
    p, q = measures(sheet.at(*one)), measures(sheet.at(*other))
    off = measures(sheet.off(*one, step))
    off = tuple(a + b for a, b in zip(off, sheet.first))
    upright = crossed(minus(q, p), minus(off, p))
    left = crossed(sheet.plane, minus(q, p))
    if dotted(upright, left) < 0:
        upright = tuple(-n for n in upright)
    return whole(upright + (-dotted(upright, p),))


def leaning_ones(sheet, pairs):
    return [leaning(sheet, *pairs, step) for step in (1, -1, Fraction(7, 3))]


def turned(plane):
    return tuple(-n for n in plane)


def row_on(sheet, stretches):
    """The row of stretches of one line: its way goes where measures grow, the first that do."""
    pairs = [tuple(sorted((sheet.at(*p), sheet.at(*q)), key=measures)) for p, q in stretches]
    return tuple(sorted(pairs, key=lambda pair: measures(pair[0])))


def land_on(sheet, rings):
    return land_of(sheet.plane, [sheet.ring(*ring) for ring in rings])


def some_land(chance, sheet):
    rings = []
    for k in range(chance.randint(1, 2)):
        rings.append(sheet.ring(*(
            (Fraction(chance.randint(0, 8), 2), Fraction(chance.randint(0, 8), 2)) for n in range(chance.randint(3, 6)))))
    return land_of(sheet.plane, rings)


def some_pairs(chance):
    one = other = (0, 0)
    while one == other:
        one, other = ((Fraction(chance.randint(0, 8), 2), Fraction(chance.randint(0, 8), 2)) for k in range(2))
    return one, other


class Rims(unittest.TestCase):
    def test_told_ones(self):
        for sheet in ALL_SHEETS:
            for rings, pairs, left, right in CUT:
                land = land_on(sheet, rings)
                for plane in leaning_ones(sheet, pairs):
                    for found, expected in ((rim(land, plane), left), (rim(land, turned(plane)), right)):
                        self.assertEqual(found, row_on(sheet, expected), (rings, pairs))
                        self.assertTrue(is_plain(found) and type(found) is tuple)

    def test_from_the_other_side_of_the_land(self):
        for sheet in SHEETS:
            for rings, pairs, left, right in CUT:
                land = land_of(sheet.back, [sheet.ring(*ring) for ring in rings])
                for plane in leaning_ones(sheet, pairs):
                    self.assertEqual(rim(land, plane), row_on(sheet, left))
                    self.assertEqual(rim(land, turned(plane)), row_on(sheet, right))

    def test_traces(self):
        for sheet in ALL_SHEETS:
            for rings, pairs, left, right in CUT:
                land = land_on(sheet, rings)
                for plane in leaning_ones(sheet, pairs):
                    for found in (trace(land, plane), trace(land, turned(plane))):
                        self.assertTrue(is_plain(found) and type(found) is tuple)
                        if left == right:
                            self.assertEqual(found, row_on(sheet, left))
                        elif not left or not right:
                            self.assertEqual(found, ())
        for rings, pairs, expected in (
            (HOLED, ((0, 2), (1, 2)), [((0, 2), (2, 2)), ((4, 2), (6, 2))]),
            (HOLED, ((0, 4), (1, 4)), [((0, 4), (2, 4)), ((4, 4), (6, 4))]),
            (STEPS, ((0, 0), (1, 0)), [((2, 0), (4, 0))]),
            (CUT[-1][0], ((0, 0), (1, 0)), []),
        ):
            for sheet in SHEETS:
                for plane in leaning_ones(sheet, pairs):
                    self.assertEqual(trace(land_on(sheet, rings), plane), row_on(sheet, expected))

    def test_written_out(self):
        plane = (0, 0, 1, 0)
        land = (plane, (((0, 0, 0, 1), (1, 0, 0, 1), (0, 1, 0, 1)),))
        self.assertEqual(rim(land, (2, 0, 0, -1)), (((1, 0, 0, 2), (1, 1, 0, 2)),))
        self.assertEqual(rim(land, (-2, 0, 1, 1)), (((1, 0, 0, 2), (1, 1, 0, 2)),))
        self.assertEqual(rim(land, (1, 0, 0, 0)), (((0, 0, 0, 1), (0, 1, 0, 1)),))
        self.assertEqual(rim(land, (-1, 0, 0, 0)), ())
        self.assertEqual(rim(land, (1, 0, 0, -1)), ())
        self.assertEqual(rim(land, (-1, 0, 0, 1)), ())
        self.assertEqual(trace(land, (1, 0, 0, 0)), ())
        self.assertEqual(trace(land, (4, 0, 0, -1)), (((1, 0, 0, 4), (1, 3, 0, 4)),))

    def test_no_line_in_common(self):
        for sheet in ALL_SHEETS:
            for land in (land_on(sheet, [SQUARE]), (sheet.back, ()), land_on(sheet, HOLED)):
                for plane in (sheet.plane, sheet.back, alongside(sheet, 3), turned(alongside(sheet, 3))):
                    self.assertIsNone(line_common(land[0], plane))
                    self.assertEqual(rim(land, plane), ())
                    self.assertEqual(trace(land, plane), ())

    def test_point_by_point(self):
        chance = random.Random(81)
        near = Fraction(1, 10 ** 20)
        for k in range(60):
            sheet = SHEETS[k % len(SHEETS)]
            land, pairs = some_land(chance, sheet), some_pairs(chance)
            plane = leaning(sheet, *pairs, chance.choice((1, -2)))
            line = line_common(land[0], plane)
            (s, t), (u, v) = pairs
            row, back, both = rim(land, plane), rim(land, turned(plane)), trace(land, plane)
            for n in range(8):
                step = Fraction(chance.randint(-40, 80), 17) + Fraction(1, 1009)
                spot = s + step * (u - s), t + step * (v - t)
                places = []
                for off in (near, -near):
                    beside = measures(sheet.at(*spot))
                    left = crossed(sheet.plane, minus(measures(sheet.at(u, v)), measures(sheet.at(s, t))))
                    places.append(land_place(land, point_at(*(a + off * b for a, b in zip(beside, left)))))
                p = sheet.at(*spot)
                self.assertEqual(row_place(line, row, p), places[0])
                self.assertEqual(row_place(line, back, p), places[1])
                self.assertEqual(row_place(line, both, p), min(places))


def alongside(sheet, step):
    """The sheet's plane with its points step times its first three numbers farther on."""
    p = measures(sheet.off(0, 0, step))
    return whole(tuple(sheet.plane[:3]) + (-dotted(sheet.plane, p),))


class Parts(unittest.TestCase):
    def test_told_ones(self):
        for sheet in ALL_SHEETS:
            for rings, pairs, left, right in PARTED:
                land = land_on(sheet, rings)
                for plane in leaning_ones(sheet, pairs):
                    for found, expected in ((land_part(land, plane), left), (land_part(land, turned(plane)), right)):
                        self.assertEqual(found, land_on(sheet, expected), (rings, pairs))
                        self.assertEqual(len(found[1]), len(expected))
                        self.assertTrue(is_plain(found))

    def test_written_out(self):
        plane = (0, 0, 1, 0)
        land = (plane, (((0, 0, 0, 1), (1, 0, 0, 1), (0, 1, 0, 1)),))
        self.assertEqual(land_part(land, (2, 0, 0, -1)), (plane, (((1, 0, 0, 1), (1, 1, 0, 2), (1, 0, 0, 2)),)))
        self.assertEqual(
            land_part(land, (-2, 0, 0, 1)), (plane, (((0, 0, 0, 1), (1, 0, 0, 2), (1, 1, 0, 2), (0, 1, 0, 1)),)))
        turned_land = ((0, 0, -1, 0), (((0, 0, 0, 1), (0, 1, 0, 1), (1, 0, 0, 1)),))
        self.assertEqual(
            land_part(turned_land, (2, 0, 5, -1)), ((0, 0, -1, 0), (((1, 0, 0, 1), (1, 0, 0, 2), (1, 1, 0, 2)),)))

    def test_its_own_plane(self):
        for sheet in ALL_SHEETS:
            for rings in ([], [SQUARE], [SAW], HOLED):
                land = land_on(sheet, rings)
                self.assertEqual(land_part(land, sheet.plane), (sheet.plane, ()))
                self.assertEqual(land_part(land, sheet.back), (sheet.plane, ()))
            land = land_of(sheet.back, [sheet.square(0, 0)])
            self.assertEqual(land_part(land, sheet.plane), (sheet.back, ()))
            self.assertEqual(land_part(land, sheet.back), (sheet.back, ()))

    def test_planes_alongside(self):
        for sheet in ALL_SHEETS:
            ahead, behind = alongside(sheet, 2), alongside(sheet, -2)
            for rings in ([], [SQUARE], [SAW], HOLED):
                land = land_on(sheet, rings)
                self.assertEqual(land_part(land, behind), land)
                self.assertEqual(land_part(land, turned(behind)), (sheet.plane, ()))
                self.assertEqual(land_part(land, ahead), (sheet.plane, ()))
                self.assertEqual(land_part(land, turned(ahead)), land)

    def test_the_two_parts_joined_are_the_land(self):
        chance = random.Random(82)
        for k in range(60):
            sheet = SHEETS[k % len(SHEETS)]
            land, pairs = some_land(chance, sheet), some_pairs(chance)
            plane = leaning(sheet, *pairs, chance.choice((1, -2)))
            before, behind = land_part(land, plane), land_part(land, turned(plane))
            self.assertTrue(is_land(before) and is_land(behind))
            self.assertEqual(land_joined(before, behind), land)
            self.assertEqual(land_common(before, behind), (sheet.plane, ()))

    def test_point_by_point(self):
        chance = random.Random(83)
        for k in range(40):
            sheet = SHEETS[k % len(SHEETS)]
            land, pairs = some_land(chance, sheet), some_pairs(chance)
            plane = leaning(sheet, *pairs)
            part = land_part(land, plane)
            for n in range(12):
                p = sheet.at(Fraction(chance.randint(-3, 27), 6), Fraction(chance.randint(-3, 27), 6))
                high = dotted(plane, p)
                if high != 0 and land_place(land, p) != 0:
                    self.assertEqual(land_place(part, p), land_place(land, p) if high > 0 else -1)


if __name__ == "__main__":
    unittest.main()
