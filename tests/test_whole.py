"""What holds throughout: [5] over the whole program."""

import random
import unittest
from fractions import Fraction

from solidyard.bodies import body_of, heap_of, is_body
from solidyard.corners import counts
from solidyard.cuts import cut, diced, joined_all, part
from solidyard.desk import Desk
from solidyard.errors import MeetsEdge
from solidyard.lands import land_of, land_place
from solidyard.lowest import plus
from solidyard.moves import after, moved, moved_plane, moved_point, table, undone
from solidyard.plain import is_plain
from solidyard.planes import height, over
from solidyard.points import amid
from solidyard.shells import handles, nest, pieces, shells
from solidyard.texts import read, shown
from solidyard.volumes import place, volume
from solidyard.ways import beyond
from solidyard.words import common, either, joined, less
from tests.helper import (
    FRAMES, HEAPS, HOLED, NICKED, PLAIN, SOUND, WIDE, box_rings, is_within, measures, some_plane, some_solid,
    some_spots, spot_in,
)

WORDS = (joined, common, less, either)


def some_body(chance, frame, many=3):
    return body_of(frame.heap([ring for n in range(many) for ring in some_solid(chance)]))


def some_table(chance):
    while True:
        rows = [tuple(chance.randint(-3, 3) for n in range(4)) for k in range(3)]
        (a, b, c), (d, e, f), (g, h, i) = (row[:3] for row in rows)
        if a * (e * i - f * h) + b * (f * g - d * i) + c * (d * h - e * g):
            return table(*rows, chance.choice((-4, -1, 1, 2, 3)))


def all_cases():
    """Bodies of each kind, in slanted frames."""
    for k, (rings, walls) in enumerate(HEAPS.values()):
        yield FRAMES[k % len(FRAMES)].body(walls)
    for k, (rings, *told) in enumerate(SOUND.values()):
        yield body_of(FRAMES[k % len(FRAMES)].heap(rings))
    for frame in FRAMES:
        yield frame.body(NICKED)
        yield frame.body(HOLED)


class OneList(unittest.TestCase):
    def test_the_same_body_made_in_several_ways(self):
        chance = random.Random(211)
        for k in range(12):
            frame = FRAMES[k % len(FRAMES)]
            body, other = some_body(chance, frame, 2), some_body(chance, frame, 1)
            by, plane = some_table(chance), some_plane(chance, frame)
            mixed = [ring[n:] + ring[:n] for ring in heap_of(body) for n in [chance.randrange(len(ring))]]
            mixed = [ring[::chance.choice((1, -1))] for ring in mixed]
            chance.shuffle(mixed)
            desk = Desk()
            desk.tell(f"put a {shown(body)}")
            desk.tell(f"put b {shown(other)}")
            for line in ("less c a b", "common a a b", "joined a c a"):
                desk.tell(line)
            for made in (
                body_of(mixed), body_of(mixed + list(heap_of(other)) * 2), read(shown(body)), moved(moved(body, by), undone(by)),
                moved(body, after(by, undone(by))), joined(part(body, plane), part(body, over(plane))),
                joined(less(body, other), common(body, other)), either(either(body, other), other),
                less(joined(body, other), less(other, body)), joined_all(diced(body, [plane, moved_plane(plane, by)])[::-1]),
                read(desk.tell("shown a")), common(body, body), joined(body, ()),
            ):
                self.assertEqual(made, body)

    def test_sides_halved_and_walls_parted(self):
        # Points amid sides and rings that are cut in two tell the same body.
        for body in all_cases():
            halved = [
                tuple(spot for p, q in zip(ring, ring[1:] + ring[:1]) for spot in (p, amid(p, q))) for ring in heap_of(body)]
            self.assertEqual(body_of(halved), body)
            fans = [
                (ring[0], p, q) for ring in heap_of(body) for p, q in zip(ring[1:], ring[2:])]
            self.assertEqual(body_of(fans), body)
            self.assertTrue(is_body(body))

    def test_parts_in_whatever_order(self):
        chance = random.Random(212)
        for body in all_cases():
            planes = [some_plane(chance, PLAIN) for n in range(3)]
            found = list(diced(body, planes))
            chance.shuffle(planes)
            again = list(diced(body, planes))
            self.assertEqual(sorted(found), sorted(again))
            chance.shuffle(found)
            self.assertEqual(joined_all(found), body)


class Points(unittest.TestCase):
    def test_half_lines_tell_the_place(self):
        chance = random.Random(213)
        met = 0
        for body in all_cases():
            for spot in some_spots(chance, 4, 6):
                p = PLAIN.at(*spot)
                if place(body, p) == 0:
                    continue
                for n in range(3):
                    way = tuple(chance.randint(-5, 5) for k in range(3))
                    if way == (0, 0, 0):
                        continue
                    try:
                        found = beyond(body, p, way)
                    except MeetsEdge:
                        continue
                    met += len(found)
                    self.assertEqual(len(found) % 2 == 1, place(body, p) == 1)
        self.assertGreater(met, 100)

    def test_words_by_places(self):
        chance = random.Random(214)
        for k in range(10):
            frame = FRAMES[k % len(FRAMES)]
            one, other = some_body(chance, frame), some_body(chance, frame, 2)
            made = [word(one, other) for word in WORDS]
            for spot in some_spots(chance, 6, 5):
                p = frame.at(*spot)
                a, b = place(one, p) == 1, place(other, p) == 1
                self.assertEqual([place(body, p) == 1 for body in made], [a or b, a and b, a and not b, a != b])

    def test_cuts_by_places(self):
        chance = random.Random(215)
        for body in all_cases():
            if not body:
                continue
            plane = some_plane(chance, PLAIN)
            land = cut(body, plane)
            for n in range(4):
                p = spot_in(chance, plane, heap_of(body))
                self.assertEqual(height(plane, p), 0)
                if place(body, p) != 0:
                    self.assertEqual(land_place(land, p), place(body, p))
                    self.assertEqual(place(body, p) == 1, is_within(heap_of(body), measures(p)))


class Volumes(unittest.TestCase):
    def test_joined_and_common_come_to_both(self):
        chance = random.Random(216)
        for body in all_cases():
            other = some_body(chance, FRAMES[2], 1)
            self.assertEqual(
                plus(volume(joined(body, other)), volume(common(body, other))), plus(volume(body), volume(other)))


class Handles(unittest.TestCase):
    def test_those_of_the_parts_added(self):
        chance = random.Random(217)
        told = 0
        for k in range(40):
            frame = FRAMES[k % len(FRAMES)]
            body = joined_all([some_body(chance, frame, 1) for n in range(3)])
            if not is_plain(body):
                continue
            corners, bits, outer, inner = counts(body)
            found = handles(body)
            self.assertGreaterEqual(found, 0)
            self.assertEqual(corners - bits + outer - inner, 2 * (len(shells(body)) - found))
            self.assertEqual(found, sum(handles(piece) for piece in pieces(body)))
            self.assertEqual(joined_all(pieces(body)), body)
            told += 1
        self.assertGreater(told, 20)


class Moved(unittest.TestCase):
    def test_what_is_made_of_moved_bodies(self):
        chance = random.Random(218)
        for k in range(10):
            frame, by = FRAMES[k % len(FRAMES)], some_table(chance)
            one, other = some_body(chance, frame, 2), some_body(chance, frame, 2)
            for word in WORDS:
                self.assertEqual(word(moved(one, by), moved(other, by)), moved(word(one, other), by))
            planes = [some_plane(chance, frame) for n in range(3)]
            turned = [moved_plane(plane, by) for plane in planes]
            self.assertEqual(diced(moved(one, by), turned), tuple(moved(piece, by) for piece in diced(one, planes)))
            self.assertEqual(joined_all([moved(one, by), moved(other, by)]), moved(joined_all([one, other]), by))
            land = cut(one, planes[0])
            rings = [[moved_point(p, by) for p in ring] for ring in land[1]]
            self.assertEqual(cut(moved(one, by), turned[0]), land_of(turned[0], rings))
            self.assertEqual(is_plain(moved(one, by)), is_plain(one))
            self.assertEqual(counts(moved(one, by)), counts(one))

    def test_shells_and_pieces_but_for_their_order(self):
        chance = random.Random(219)
        for name, (rings, *told) in SOUND.items():
            by = some_table(chance)
            body = body_of(FRAMES[2].heap(rings + WIDE))
            found = moved(body, by)
            self.assertEqual(shells(found), tuple(sorted((sign, moved(filled, by)) for sign, filled in shells(body))))
            self.assertEqual(sorted(pieces(found)), sorted(moved(piece, by) for piece in pieces(body)))
            self.assertEqual(handles(found), handles(body))
            # Straight round each moved shell lies the moved one.
            places = [shells(found).index((sign, moved(filled, by))) for sign, filled in shells(body)]
            for at, around in enumerate(nest(body)):
                self.assertEqual(nest(found)[places[at]], None if around is None else places[around])

    def test_half_lines(self):
        chance = random.Random(220)
        for k in range(20):
            frame, by = FRAMES[k % len(FRAMES)], some_table(chance)
            body = some_body(chance, frame, 2)
            for spot in some_spots(chance, 3, 5):
                p = frame.at(*spot)
                way = tuple(chance.randint(-50, 50) for n in range(3))
                turned = tuple(sum(a * b for a, b in zip(row[:3], way)) for row in by[:3])
                if way == (0, 0, 0) or place(body, p) == 0:
                    continue
                try:
                    expected = tuple(moved_plane(plane, by) for plane in beyond(body, p, way))
                except MeetsEdge:
                    with self.assertRaises(MeetsEdge):
                        beyond(moved(body, by), moved_point(p, by), turned)
                    continue
                self.assertEqual(beyond(moved(body, by), moved_point(p, by), turned), expected)


class Written(unittest.TestCase):
    def test_read_to_the_same_body(self):
        chance = random.Random(221)
        for body in all_cases():
            self.assertEqual(read(shown(body)), body)
        for k in range(10):
            body = moved(some_body(chance, FRAMES[k % len(FRAMES)]), some_table(chance))
            self.assertEqual(read(shown(body)), body)

    def test_a_day_at_the_desk(self):
        desk = Desk()
        block = body_of(PLAIN.heap(box_rings((0, 0, 0), (4, 4, 2))))
        bar = body_of(PLAIN.heap(box_rings((1, 1, -1), (3, 3, 3))))
        for line, answer in (
            (f"put block {shown(block)}", "done"), (f"put bar {shown(bar)}", "done"), ("less ring block bar", "done"),
            ("handles ring", "1"), ("volume ring", "24"), ("counts ring", "16 24 10 2"), ("place ring 2 2 1", "-1"),
            ("place ring 1/2 2 1", "1"), ("lies ring block", "yes"), ("lies block ring", "no"),
            ("moved ring ring 0 1 0 0 1 0 0 0 0 0 1 0 2", "done"), ("volume ring", "3"), ("handles ring", "1"),
            ("part half ring 1 0 0 -1", "done"), ("handles half", "0"), ("volume half", "3/2"), ("undo", "done"), ("undo", "done"),
            ("cut ring 0 0 1 -1", "0 0 1, 4 0 1, 4 4 1, 0 4 1 | 1 1 1, 1 3 1, 3 3 1, 3 1 1"), ("names", "bar block ring"),
            ("again", "done"), ("volume ring", "3"), ("drop bar", "done"), ("names", "block ring"),
        ):
            self.assertEqual(desk.tell(line), answer, line)
        self.assertEqual(Fraction(desk.tell("volume ring")), 3)


if __name__ == "__main__":
    unittest.main()
