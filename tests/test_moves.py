"""Tables and what they move: [51], [52], [53]."""

import random
import unittest
from fractions import Fraction

from solidyard.bodies import body_of, heap_of, is_body
from solidyard.corners import corners, counts
from solidyard.cuts import cut, diced, part
from solidyard.errors import FlatMove
from solidyard.lands import land_of
from solidyard.moves import after, moved, moved_plane, moved_point, table, undone
from solidyard.plain import is_plain
from solidyard.shells import handles
from solidyard.volumes import place, volume
from solidyard.words import common, either, joined, less
from tests import helper
from tests.helper import (
    BOX, CUBE, FRAMES, GREAT, HEAPS, HUGE, LIMIT, PLAIN, SOUND, TETRA, crossed, dotted, is_numbers, measures, ones,
    point_at, signum, some_plane, some_points, some_solid, some_spots,
)

STAY = ((1, 0, 0, 0), (0, 1, 0, 0), (0, 0, 1, 0), 1)
SHIFT = ((1, 0, 0, 3), (0, 1, 0, -2), (0, 0, 1, 5), 1)
HALF_SHIFT = ((2, 0, 0, 1), (0, 2, 0, -3), (0, 0, 2, 5), 2)
QUARTER = ((0, -1, 0, 0), (1, 0, 0, 0), (0, 0, 1, 0), 1)
SLANT = ((3, 4, 0, 0), (-4, 3, 0, 0), (0, 0, 5, 0), 5)
STRETCH = ((2, 0, 0, 0), (0, 3, 0, 0), (0, 0, 5, 0), 1)
SHRINK = ((3, 0, 0, 0), (0, 2, 0, 0), (0, 0, 1, 0), 6)
SHEAR = ((1, 2, 3, 1), (0, 1, 4, 0), (0, 0, 1, -1), 1)
MIRROR = ((-1, 0, 0, 0), (0, 1, 0, 0), (0, 0, 1, 0), 1)
POINT_MIRROR = ((-1, 0, 0, 2), (0, -1, 0, 0), (0, 0, -1, 7), 1)
SWAP = ((0, 1, 0, 1), (1, 0, 0, 0), (0, 0, 2, 0), 3)
WILD = ((2, -1, 3, 4), (1, 5, -2, -7), (-3, 0, 1, 1), 4)
TABLES = (
    STAY, SHIFT, HALF_SHIFT, QUARTER, SLANT, STRETCH, SHRINK, SHEAR, MIRROR, POINT_MIRROR, SWAP, WILD,
    ((GREAT, 1, 0, 0), (0, GREAT + 2, 1, 5), (1, 0, -1, GREAT), GREAT + 1),
)
HUGE_TABLE = ((HUGE, 1, 0, 0), (0, 1, 0, HUGE), (0, 0, -1, 1), HUGE + 2)


def determinant(by):
    return dotted(by[0][:3], crossed(by[1][:3], by[2][:3]))


def moved_spot(spot, by):
    """Where a table takes three measures."""
    return tuple((dotted(row[:3], spot) + row[3]) / Fraction(by[3]) for row in by[:3])


def moved_by_hand(p, by):
    return point_at(*moved_spot(measures(p), by))


def some_table(chance, top=4):
    while True:
        rows = tuple(tuple(chance.randint(-top, top) for n in range(4)) for k in range(3))
        if determinant(rows + (1,)):
            return table(*rows, chance.choice((-5, -2, -1, 1, 2, 3, 6)))


class Tables(unittest.TestCase):
    def test_in_lowest_terms(self):
        for numbers, expected in (
            (STAY, STAY), (((2, 0, 0, 0), (0, 2, 0, 0), (0, 0, 2, 0), 2), STAY),
            (((2, 0, 0, 4), (0, 2, 0, 0), (0, 0, 2, 0), 2), ((1, 0, 0, 2), (0, 1, 0, 0), (0, 0, 1, 0), 1)),
            (((2, 0, 0, 3), (0, 2, 0, 0), (0, 0, 2, 0), 2), ((2, 0, 0, 3), (0, 2, 0, 0), (0, 0, 2, 0), 2)),
            (((6, 0, 0, 0), (0, 6, 0, 0), (0, 0, 6, 0), 9), ((2, 0, 0, 0), (0, 2, 0, 0), (0, 0, 2, 0), 3)),
            (((6, 0, 0, 0), (0, 6, 0, 0), (0, 0, 6, 12), 3), ((2, 0, 0, 0), (0, 2, 0, 0), (0, 0, 2, 4), 1)),
        ):
            self.assertEqual(table(*numbers), expected)

    def test_signs_are_turned_where_the_bottom_is_below_nought(self):
        self.assertEqual(table((1, 0, 0, 5), (0, 1, 0, 0), (0, 0, 1, 0), -1), (
            (-1, 0, 0, -5), (0, -1, 0, 0), (0, 0, -1, 0), 1))
        self.assertEqual(table((-4, 2, 0, 0), (0, 2, -2, 0), (0, 0, 2, 8), -6), (
            (2, -1, 0, 0), (0, -1, 1, 0), (0, 0, -1, -4), 3))

    def test_kinds(self):
        for numbers in TABLES + (HUGE_TABLE,):
            for times in (1, 2, -3, GREAT):
                rows = tuple(tuple(times * n for n in row) for row in numbers[:3])
                found = table(*rows, times * numbers[3])
                self.assertEqual(found, numbers)
                self.assertTrue(type(found) is tuple and len(found) == 4 and type(found[3]) is int)
                self.assertTrue(all(is_numbers(row, 4) for row in found[:3]))

    def test_of_great_numbers(self):
        for great in (GREAT, HUGE, LIMIT):
            self.assertEqual(
                table((great, 0, 0, 0), (0, great, 0, great), (0, 0, great, 0), -great),
                ((-1, 0, 0, 0), (0, -1, 0, -1), (0, 0, -1, 0), 1))
            rows = ((great, 0, 0, 1), (0, great + 1, 0, 0), (0, 0, 1, 0))
            self.assertEqual(table(*rows, great), rows + (great,))

    def test_refused(self):
        rows = STAY[:3]
        for first, second, third, bottom in (
            rows + (0,), ((1, 0, 0, 9), (0, 1, 0, 9), (1, 1, 0, 9), 1), ((0, 0, 0, 1), (0, 0, 0, 1), (0, 0, 0, 1), 1),
            ((1, 2, 3, 0), (2, 4, 6, 0), (0, 0, 1, 0), 1), ((1, 2, 3, 0), (4, 5, 6, 0), (7, 8, 9, 1), -4),
            ((0, 0, 0, 0), (0, 1, 0, 0), (0, 0, 1, 0), 1), ((0, 1, 0, 0), (0, 2, 0, 0), (0, 0, 1, 0), 1),
            ((0, 0, 0, 0), (0, 0, 0, 0), (0, 0, 0, 0), 0), ((GREAT, GREAT, 0, 0), (1, 1, 0, 0), (0, 0, 1, 0), 1),
        ):
            with self.assertRaises(FlatMove) as caught:
                table(first, second, third, bottom)
            self.assertIs(type(caught.exception), FlatMove)

    def test_rows_that_are_near_one_another_are_not_flat(self):
        numbers = ((GREAT, GREAT + 1, 0, 0), (GREAT - 1, GREAT, 0, 0), (0, 0, 1, 0), 1)
        self.assertEqual(table(*numbers), numbers)


class MovedPoints(unittest.TestCase):
    def test_written_out(self):
        for p, by, expected in (
            ((1, 2, 3, 1), SHIFT, (4, 0, 8, 1)), ((1, 2, 3, 4), SHIFT, (13, -6, 23, 4)), ((1, 2, 3, 1), MIRROR, (-1, 2, 3, 1)),
            ((1, 2, 3, 1), QUARTER, (-2, 1, 3, 1)), ((1, 0, 0, 1), SLANT, (3, -4, 0, 5)), ((2, 3, 6, 1), SHRINK, (1, 1, 1, 1)),
            ((1, 2, 3, 1), SWAP, (3, 1, 6, 3)), ((0, 0, 0, 1), WILD, (4, -7, 1, 4)), ((1, 2, 3, 5), STAY, (1, 2, 3, 5)),
        ):
            self.assertEqual(moved_point(p, by), expected)

    def test_many(self):
        for by in TABLES + (HUGE_TABLE,):
            for p in some_points(10, 181) + [(HUGE, 1, -1, GREAT), (0, 0, 0, 1)]:
                found = moved_point(p, by)
                self.assertEqual(found, moved_by_hand(p, by))
                self.assertTrue(is_numbers(found, 4))


class MovedPlanes(unittest.TestCase):
    def test_written_out(self):
        for plane, by, expected in (
            ((1, 0, 0, 0), SHIFT, (1, 0, 0, -3)), ((1, 0, 0, -1), MIRROR, (-1, 0, 0, -1)), ((0, 0, 1, 0), STRETCH, (0, 0, 1, 0)),
            ((1, 0, 0, -1), STRETCH, (1, 0, 0, -2)), ((1, 1, 1, -1), STRETCH, (15, 10, 6, -30)), ((1, 2, 3, 4), STAY, (1, 2, 3, 4)),
            ((0, 0, 1, 0), POINT_MIRROR, (0, 0, -1, 7)), ((1, 0, 0, 0), SWAP, (0, 1, 0, 0)), ((1, 0, 0, -1), SHRINK, (2, 0, 0, -1)),
        ):
            self.assertEqual(moved_plane(plane, by), expected)

    def test_points_keep_their_side(self):
        chance = random.Random(182)
        for by in TABLES + (HUGE_TABLE,):
            for k in range(4):
                frame = FRAMES[k]
                plane = some_plane(chance, frame)
                found = moved_plane(plane, by)
                self.assertTrue(is_numbers(found, 4))
                self.assertEqual(helper.gcd(*found), 1)
                for p in some_points(6, k):
                    self.assertEqual(signum(dotted(found, moved_by_hand(p, by))), signum(dotted(plane, p)))
                # Points of the plane itself.
                flat, lifted = helper.flattened(plane)
                for pair in ((0, 0), (1, 2), (Fraction(-3, 7), 5)):
                    self.assertEqual(dotted(found, moved_by_hand(lifted(pair), by)), 0)


class MovedBodies(unittest.TestCase):
    def test_the_body_without_points(self):
        for by in TABLES:
            self.assertEqual(moved((), by), ())

    def test_written_out(self):
        box = body_of(PLAIN.heap(BOX))
        self.assertEqual(moved(box, STAY), box)
        self.assertEqual(moved(box, SHIFT), PLAIN.body(ones(helper.box_rings((3, -2, 5), (4, 0, 8)))))
        self.assertEqual(moved(box, STRETCH), PLAIN.body(ones(helper.box_rings((0, 0, 0), (2, 6, 15)))))
        self.assertEqual(moved(box, SHRINK), PLAIN.body(ones(helper.box_rings((0, 0, 0), (Fraction(1, 2), Fraction(2, 3), Fraction(1, 2))))))
        self.assertEqual(moved(box, MIRROR), PLAIN.body(ones(helper.box_rings((-1, 0, 0), (0, 2, 3)))))
        self.assertEqual(moved(box, POINT_MIRROR), PLAIN.body(ones(helper.box_rings((1, -2, 4), (2, 0, 7)))))
        self.assertEqual(moved(box, QUARTER), PLAIN.body(ones(helper.box_rings((-2, 0, 0), (0, 1, 3)))))

    def test_that_of_the_moved_rings(self):
        for by in TABLES:
            for frame in FRAMES[::2]:
                for name, (rings, walls) in HEAPS.items():
                    body = frame.body(walls)
                    found = moved(body, by)
                    self.assertEqual(found, body_of([[moved_by_hand(p, by) for p in ring] for ring in heap_of(body)]))
                    self.assertTrue(helper.is_plain(found) and type(found) is tuple)
        body = PLAIN.body(HEAPS["overlap"][1])
        found = moved(body, HUGE_TABLE)
        self.assertEqual(found, body_of([[moved_by_hand(p, HUGE_TABLE) for p in ring] for ring in heap_of(body)]))

    def test_of_walls_with_holes_and_rings_that_touch(self):
        for by in TABLES:
            for walls in (helper.NICKED, helper.HOLED):
                body = PLAIN.body(walls)
                found = moved(body, by)
                self.assertTrue(is_body(found))
                self.assertEqual(found, body_of([[moved_by_hand(p, by) for p in ring] for ring in heap_of(body)]))
                self.assertEqual(counts(found), counts(body))

    def test_volumes_counts_corners_and_handles(self):
        for by in TABLES:
            size = Fraction(abs(determinant(by)), by[3] ** 3)
            for name, (rings, many, parts, held) in SOUND.items():
                body = body_of(PLAIN.heap(rings))
                found = moved(body, by)
                expected = Fraction(*volume(body)) * size
                self.assertEqual(volume(found), (expected.numerator, expected.denominator))
                self.assertEqual(counts(found), counts(body))
                self.assertEqual(corners(found), tuple(sorted(moved_by_hand(p, by) for p in corners(body))))
            for name in ("tube", "three bars", "a hollow with a handle", "a plug in a tube"):
                self.assertEqual(handles(moved(body_of(PLAIN.heap(SOUND[name][0])), by)), SOUND[name][3])
            for name in ("at a corner", "an edge across a wall", "two edges cross"):
                self.assertFalse(is_plain(moved(body_of(PLAIN.heap(helper.PINCHED[name])), by)))

    def test_places(self):
        chance = random.Random(183)
        for k, by in enumerate(TABLES):
            frame = FRAMES[k % len(FRAMES)]
            body = body_of(frame.heap(some_solid(chance) + some_solid(chance)))
            found = moved(body, by)
            for spot in some_spots(chance, 4, 5) + [(0, 0, 0), (1, 1, 1), (2, 1, 3)]:
                p = frame.at(*spot)
                self.assertEqual(place(found, moved_by_hand(p, by)), place(body, p))
            for p in corners(body):
                self.assertEqual(place(found, moved_by_hand(p, by)), 0)

    def test_words_parts_cuts_and_dice(self):
        chance = random.Random(184)
        for k in range(16):
            frame, by = FRAMES[k % len(FRAMES)], TABLES[k] if k < len(TABLES) else some_table(chance)
            one, other = (body_of(frame.heap(some_solid(chance))) for n in range(2))
            for word in (joined, common, less, either):
                self.assertEqual(word(moved(one, by), moved(other, by)), moved(word(one, other), by))
            body = either(one, other)
            planes = [some_plane(chance, frame) for n in range(3)]
            turned = [moved_plane(plane, by) for plane in planes]
            for plane, other_plane in zip(planes, turned):
                self.assertEqual(part(moved(body, by), other_plane), moved(part(body, plane), by))
                found = cut(moved(body, by), other_plane)
                rings = [[moved_by_hand(p, by) for p in ring] for ring in cut(body, plane)[1]]
                self.assertEqual(found, land_of(other_plane, rings))
            self.assertEqual(diced(moved(body, by), turned), tuple(moved(piece, by) for piece in diced(body, planes)))

    def test_there_and_back(self):
        chance = random.Random(185)
        for by in TABLES:
            body = body_of(FRAMES[2].heap(some_solid(chance) + some_solid(chance)))
            self.assertEqual(moved(moved(body, by), undone(by)), body)
            self.assertEqual(moved(moved(body, undone(by)), by), body)


class After(unittest.TestCase):
    def test_written_out(self):
        self.assertEqual(after(SHIFT, STRETCH), ((2, 0, 0, 6), (0, 3, 0, -6), (0, 0, 5, 25), 1))
        self.assertEqual(after(STRETCH, SHIFT), ((2, 0, 0, 3), (0, 3, 0, -2), (0, 0, 5, 5), 1))
        self.assertEqual(after(QUARTER, QUARTER), ((-1, 0, 0, 0), (0, -1, 0, 0), (0, 0, 1, 0), 1))
        self.assertEqual(after(MIRROR, MIRROR), STAY)
        self.assertEqual(after(HALF_SHIFT, HALF_SHIFT), ((1, 0, 0, 1), (0, 1, 0, -3), (0, 0, 1, 5), 1))
        self.assertEqual(undone(SHIFT), ((1, 0, 0, -3), (0, 1, 0, 2), (0, 0, 1, -5), 1))
        self.assertEqual(undone(STRETCH), ((15, 0, 0, 0), (0, 10, 0, 0), (0, 0, 6, 0), 30))
        self.assertEqual(undone(SHRINK), ((2, 0, 0, 0), (0, 3, 0, 0), (0, 0, 6, 0), 1))
        self.assertEqual(undone(QUARTER), ((0, 1, 0, 0), (-1, 0, 0, 0), (0, 0, 1, 0), 1))
        self.assertEqual(undone(MIRROR), MIRROR)
        self.assertEqual(undone(STAY), STAY)

    def check(self, by):
        self.assertTrue(type(by) is tuple and len(by) == 4 and type(by[3]) is int and by[3] >= 1)
        self.assertTrue(all(is_numbers(row, 4) for row in by[:3]))
        self.assertEqual(helper.gcd(*by[0], *by[1], *by[2], by[3]), 1)
        self.assertNotEqual(determinant(by), 0)

    def test_the_first_and_then_the_second(self):
        points = some_points(5, 186)
        for one in TABLES + (HUGE_TABLE,):
            for other in TABLES:
                both = after(one, other)
                self.check(both)
                for p in points:
                    self.assertEqual(moved_by_hand(p, both), moved_by_hand(moved_by_hand(p, one), other))

    def test_undone(self):
        chance = random.Random(187)
        points = some_points(5, 188)
        for by in TABLES + (HUGE_TABLE,) + tuple(some_table(chance) for n in range(40)):
            back = undone(by)
            self.check(back)
            for p in points:
                self.assertEqual(moved_by_hand(moved_by_hand(p, by), back), p)
            self.assertEqual(after(by, back), STAY)
            self.assertEqual(after(back, by), STAY)
            self.assertEqual(undone(back), by)

    def test_of_bodies(self):
        chance = random.Random(189)
        for k in range(20):
            one, other = some_table(chance), some_table(chance)
            body = body_of(FRAMES[k % len(FRAMES)].heap(TETRA + CUBE))
            self.assertEqual(moved(moved(body, one), other), moved(body, after(one, other)))
            self.assertEqual(undone(after(one, other)), after(undone(other), undone(one)))


if __name__ == "__main__":
    unittest.main()
