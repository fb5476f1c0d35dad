"""Shells, nests, pieces and handles of plain bodies: [46] to [50], and [5] as far as it speaks of them."""

import random
import unittest
from fractions import Fraction

from solidyard.bodies import body_of, is_body
from solidyard.corners import counts
from solidyard.cuts import joined_all
from solidyard.errors import Pinched
from solidyard.plain import is_plain
from solidyard.shells import handles, nest, pieces, shells
from solidyard.volumes import place, volume
from solidyard.words import common, joined, less
from tests import helper
from tests.helper import (
    BOX, CUBE, FRAMES, GREAT_FRAMES, PINCHED, SOUND, WIDE, body_place_by_hand, box_rings, cells_heap, cube_rings,
    handles_by_cells, is_plain_by_cells, ones, shells_by_cells, some_cells, tube, volume_of,
)

ALL_FRAMES = FRAMES + GREAT_FRAMES[:1]


def cube(frame, low, size):
    return frame.body(ones(cube_rings(low, low, low, size)))


def nested(frame):
    """A cube with a hollow, in it a cube with a hollow; beside it a cube with two hollows."""
    rings = [ring for k in range(4) for ring in cube_rings(k, k, k, 9 - 2 * k)]
    rings += cube_rings(20, 0, 0, 7) + cube_rings(21, 1, 1) + cube_rings(23, 3, 3, 2)
    return body_of(frame.heap(rings))


class Shells(unittest.TestCase):
    def test_of_the_body_without_points(self):
        self.assertEqual(shells(()), ())

    def test_of_one_shell(self):
        for frame in ALL_FRAMES:
            for name in ("box", "tetrahedron", "wedge", "tube", "three bars", "corners amid sides", "a bridge"):
                body = body_of(frame.heap(SOUND[name][0]))
                self.assertEqual(shells(body), ((1, body),), name)

    def test_of_a_hollow(self):
        for frame in ALL_FRAMES:
            body = body_of(frame.heap(SOUND["hollow"][0]))
            self.assertEqual(shells(body), ((-1, cube(frame, 1, 1)), (1, cube(frame, 0, 3))))

    def test_written_out(self):
        body = body_of(helper.PLAIN.heap(cube_rings(0, 0, 0, 3) + cube_rings(1, 1, 1)))
        inner = (
            ((-1, 0, 0, 1), (((1, 1, 1, 1), (1, 1, 2, 1), (1, 2, 2, 1), (1, 2, 1, 1)),)),
            ((0, -1, 0, 1), (((1, 1, 1, 1), (2, 1, 1, 1), (2, 1, 2, 1), (1, 1, 2, 1)),)),
            ((0, 0, -1, 1), (((1, 1, 1, 1), (1, 2, 1, 1), (2, 2, 1, 1), (2, 1, 1, 1)),)),
            ((0, 0, 1, -2), (((1, 1, 2, 1), (2, 1, 2, 1), (2, 2, 2, 1), (1, 2, 2, 1)),)),
            ((0, 1, 0, -2), (((1, 2, 1, 1), (1, 2, 2, 1), (2, 2, 2, 1), (2, 2, 1, 1)),)),
            ((1, 0, 0, -2), (((2, 1, 1, 1), (2, 2, 1, 1), (2, 2, 2, 1), (2, 1, 2, 1)),)),
        )
        self.assertEqual(shells(body)[0], (-1, inner))
        self.assertEqual(shells(body)[1][0], 1)

    def test_of_shells_within_shells(self):
        for frame in ALL_FRAMES:
            body = nested(frame)
            expected = [(1 if k % 2 == 0 else -1, cube(frame, k, 9 - 2 * k)) for k in range(4)]
            expected += [(sign, frame.body(ones(cube_rings(x, y, y, size)))) for sign, x, y, size in (
                (1, 20, 0, 7), (-1, 21, 1, 1), (-1, 23, 3, 2))]
            self.assertEqual(shells(body), tuple(sorted(expected)))

    def test_in_the_plane_of_one_wall(self):
        # Walls of several shells in one plane: a plug in a tube, hollows of one height.
        for frame in ALL_FRAMES:
            plug = tube((2, 2, 0), (7, 7, 2), ((3, 3), (4, 4)))
            ring = tube((0, 0, 0), (9, 9, 2), ((1, 1), (8, 8)))
            body = body_of(frame.heap(ring + plug))
            self.assertEqual(shells(body), tuple(sorted((1, body_of(frame.heap(part))) for part in (ring, plug))))
            hollows = [box_rings((1 + 3 * k, 1, 1), (3 + 3 * k, 3, 4)) for k in range(4)]
            body = body_of(frame.heap(box_rings((0, 0, 0), (13, 4, 4 + 1)) + [r for rings in hollows for r in rings]))
            expected = [(-1, body_of(frame.heap(rings))) for rings in hollows]
            expected.append((1, body_of(frame.heap(box_rings((0, 0, 0), (13, 4, 5))))))
            self.assertEqual(shells(body), tuple(sorted(expected)))

    def test_parts_of_one_wall_that_are_joined_elsewhere(self):
        # The top of a trough is two lands in one plane, both of one shell.
        for frame in ALL_FRAMES:
            trough = box_rings((0, 0, 0), (3, 5, 2)) + box_rings((1, 0, 1), (2, 5, 2))
            body = body_of(frame.heap(trough))
            self.assertEqual(shells(body), ((1, body),))
            self.assertEqual(handles(body), 0)

    def test_what_is_told_are_bodies_in_order(self):
        for frame in FRAMES:
            for name, (rings, many, *rest) in SOUND.items():
                body = body_of(frame.heap(rings))
                found = shells(body)
                self.assertTrue(helper.is_plain(found) and type(found) is tuple)
                self.assertEqual(len(found), many, name)
                self.assertEqual(list(found), sorted(found))
                for sign, filled in found:
                    self.assertIn(sign, (1, -1))
                    self.assertTrue(is_body(filled) and is_plain(filled))
                    self.assertEqual(shells(filled), ((1, filled),))
                total = sum(sign * Fraction(*volume(filled)) for sign, filled in found)
                self.assertEqual((total.numerator, total.denominator), volume(body))

    def test_cube_by_cube(self):
        chance = random.Random(171)
        told = 0
        for k in range(60):
            size = chance.choice((3, 4, 5, 7))
            some = some_cells(chance, size)
            if not is_plain_by_cells(some):
                continue
            frame = FRAMES[k % len(FRAMES)]
            body = body_of(cells_heap(frame, some))
            expected = [
                ((sign, body_of(cells_heap(frame, filled))), part) for sign, filled, part in shells_by_cells(some, size)]
            expected = sorted(expected, key=lambda pair: pair[0])
            self.assertEqual(shells(body), tuple(shell for shell, part in expected))
            parts = [body_of(cells_heap(frame, part)) for shell, part in expected if part]
            self.assertEqual(pieces(body), tuple(parts))
            self.assertEqual(handles(body), handles_by_cells(some))
            told += len(expected)
        self.assertGreater(told, 40)


class Nests(unittest.TestCase):
    def test_told_ones(self):
        self.assertEqual(nest(()), ())
        for frame in ALL_FRAMES:
            self.assertEqual(nest(cube(frame, 0, 1)), (None,))
            self.assertEqual(nest(body_of(frame.heap(SOUND["hollow"][0]))), (1, None))
            self.assertEqual(nest(body_of(frame.heap(SOUND["apart"][0]))), (None, None))
            # A plug in a tube is within no filled body but its own.
            self.assertEqual(nest(body_of(frame.heap(SOUND["a plug in a tube"][0]))), (None, None))

    def test_shells_within_shells(self):
        for frame in ALL_FRAMES:
            body = nested(frame)
            told = list(shells(body))
            places = [told.index((1 if k % 2 == 0 else -1, cube(frame, k, 9 - 2 * k))) for k in range(4)]
            beside = [told.index((sign, frame.body(ones(cube_rings(x, y, y, size))))) for sign, x, y, size in (
                (1, 20, 0, 7), (-1, 21, 1, 1), (-1, 23, 3, 2))]
            expected = [None] * 7
            for around, here in zip(places, places[1:]):
                expected[here] = around
            expected[beside[1]] = expected[beside[2]] = beside[0]
            found = nest(body)
            self.assertEqual(found, tuple(expected))
            self.assertTrue(type(found) is tuple and all(at is None or type(at) is int for at in found))

    def test_least_by_what_volumes_are_worth(self):
        # As tuples the volumes stand otherwise: (8, 27) is above (1, 1), but worth less.
        for frame in FRAMES:
            sizes = (3, 1, Fraction(2, 3), Fraction(1, 2))
            rings = [
                ring for size in sizes for ring in box_rings([(-size / Fraction(2))] * 3, [size / Fraction(2)] * 3)]
            body = body_of(frame.heap(rings))
            told = shells(body)
            by_size = sorted(range(4), key=lambda k: -Fraction(*volume(told[k][1])))
            expected = [None] * 4
            for around, here in zip(by_size, by_size[1:]):
                expected[here] = around
            self.assertEqual(nest(body), tuple(expected))

    def test_signs_by_turns(self):
        for frame in FRAMES:
            for name, (rings, *rest) in SOUND.items():
                body = body_of(frame.heap(rings + WIDE))
                told, found = shells(body), nest(body)
                self.assertEqual(len(found), len(told))
                for (sign, filled), at in zip(told, found):
                    if at is None:
                        self.assertEqual(sign, 1)
                    else:
                        self.assertEqual(told[at][0], -sign)
                        self.assertEqual(less(filled, told[at][1]), ())


class Pieces(unittest.TestCase):
    def test_of_the_body_without_points(self):
        self.assertEqual(pieces(()), ())

    def test_of_shells_within_shells(self):
        for frame in ALL_FRAMES:
            outer = body_of(frame.heap(cube_rings(0, 0, 0, 9) + cube_rings(1, 1, 1, 7)))
            inner = body_of(frame.heap(cube_rings(2, 2, 2, 5) + cube_rings(3, 3, 3, 3)))
            beside = body_of(frame.heap(cube_rings(20, 0, 0, 7) + cube_rings(21, 1, 1) + cube_rings(23, 3, 3, 2)))
            filled = {cube(frame, 0, 9): outer, cube(frame, 2, 5): inner, frame.body(ones(cube_rings(20, 0, 0, 7))): beside}
            self.assertEqual(pieces(nested(frame)), tuple(filled[body] for body in sorted(filled)))

    def test_joined_they_are_the_body(self):
        for frame in FRAMES:
            for name, (rings, many, parts, held) in SOUND.items():
                for heap in (rings, rings + WIDE):
                    body = body_of(frame.heap(heap))
                    found = pieces(body)
                    self.assertTrue(helper.is_plain(found) and type(found) is tuple)
                    self.assertTrue(all(is_body(piece) and is_plain(piece) for piece in found))
                    self.assertEqual(joined_all(found), body)
                    self.assertEqual(volume_of(*found), volume_of(body))
                    for one, other in zip(found, found[1:]):
                        self.assertEqual(common(one, other), ())
                    for piece in found:
                        self.assertEqual(pieces(piece), (piece,))
                    outer = [filled for sign, filled in shells(body) if sign == 1]
                    self.assertEqual([[shell for shell in shells(p) if shell[0] == 1] for p in found], [[(1, b)] for b in outer])
                self.assertEqual(len(pieces(body_of(frame.heap(rings)))), parts, name)

    def test_filled_bodies_less_their_hollows(self):
        for frame in FRAMES:
            body = nested(frame)
            told, straight = shells(body), nest(body)
            expected = []
            for at, (sign, filled) in enumerate(told):
                if sign == 1:
                    for hollow, around in zip(told, straight):
                        filled = less(filled, hollow[1]) if around == at else filled
                    expected.append(filled)
            self.assertEqual(pieces(body), tuple(expected))

    def test_point_by_point(self):
        for frame in FRAMES[:2]:
            body = nested(frame)
            parts = pieces(body)
            for n in range(2, 30):
                p = frame.at(Fraction(n, 3), Fraction(n, 4) + Fraction(1, 7), Fraction(n, 3) - Fraction(1, 5))
                places = [place(part, p) for part in parts]
                self.assertEqual(max(places), body_place_by_hand(body, p))
                self.assertLessEqual(places.count(1), 1)


class Handles(unittest.TestCase):
    def test_told_ones(self):
        for frame in ALL_FRAMES:
            for name, (rings, many, parts, held) in SOUND.items():
                found = handles(body_of(frame.heap(rings)))
                self.assertEqual(found, held, name)
                self.assertIs(type(found), int)

    def test_of_the_body_without_points(self):
        self.assertEqual(handles(()), 0)

    def test_of_huge_numbers(self):
        frame = GREAT_FRAMES[1]
        body = body_of(frame.heap(SOUND["a tube in a hollow"][0]))
        tubes = body_of(frame.heap(SOUND["tube"][0]))
        case = body_of(frame.heap(cube_rings(-2, -2, -2, 9) + cube_rings(-1, -1, -1, 7)))
        self.assertEqual(handles(body), 1)
        self.assertEqual(sorted(pieces(body)), sorted([tubes, case]))
        self.assertEqual(sorted(shells(body)), sorted(shells(tubes) + shells(case)))

    def test_of_bars_through_a_box(self):
        for frame in FRAMES:
            for many in range(1, 6):
                bars = [((2 * k + 1, 1), (2 * k + 2, 2)) for k in range(many)]
                body = body_of(frame.heap(tube((0, 0, 0), (2 * many + 1, 3, 2), *bars)))
                self.assertEqual(handles(body), many)
                # As a hollow it has as many.
                wide = body_of(frame.heap(tube((0, 0, 0), (2 * many + 1, 3, 2), *bars) + WIDE))
                self.assertEqual(handles(wide), many)

    def test_of_bars_that_meet_within(self):
        for frame in FRAMES:
            block = body_of(frame.heap(cube_rings(0, 0, 0, 3)))
            bars = [body_of(frame.heap(box_rings(low, high))) for low, high in (
                ((1, 1, -1), (2, 2, 4)), ((1, -1, 1), (2, 4, 2)), ((-1, 1, 1), (4, 2, 2)))]
            self.assertEqual([handles(less(block, joined_all(bars[:many]))) for many in range(4)], [0, 1, 3, 5])

    def test_those_of_the_pieces_together(self):
        for frame in FRAMES:
            for name, (rings, *told) in SOUND.items():
                body = body_of(frame.heap(rings + WIDE))
                self.assertEqual(handles(body), sum(handles(piece) for piece in pieces(body)))
                corners, bits, outer, inner = counts(body)
                self.assertEqual(2 * (len(shells(body)) - handles(body)), corners - bits + outer - inner)


class Refused(unittest.TestCase):
    def test_what_is_not_plain(self):
        for frame in ALL_FRAMES:
            for name, rings in PINCHED.items():
                body = body_of(frame.heap(rings))
                for asked in (shells, nest, pieces, handles):
                    with self.assertRaises(Pinched) as caught:
                        asked(body)
                    self.assertIs(type(caught.exception), Pinched)

    def test_beside_parts_that_are_plain(self):
        for frame in FRAMES:
            plain = body_of(frame.heap([tuple((x + 40, y, z) for x, y, z in ring) for ring in BOX]))
            pinched = body_of(frame.heap(CUBE + cube_rings(1, 1, 1)))
            for asked in (shells, nest, pieces, handles):
                with self.assertRaises(Pinched):
                    asked(joined(plain, pinched))


if __name__ == "__main__":
    unittest.main()
