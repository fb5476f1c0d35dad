"""Texts that are written and read: [54], [55], [56]."""

import random
import unittest
from fractions import Fraction

from solidyard.bodies import body_of, heap_of
from solidyard.errors import NoText, NotClosed, NotFlat, TooGreat, YardError
from solidyard.texts import (
    read, read_number, read_point, read_rings, shown, shown_number, shown_point, shown_rings,
)
from tests.helper import (
    FRAMES, HEAPS, HOLED, NICKED, PLAIN, SOUND, TETRA, box_rings, is_numbers, is_plain, some_points,
    some_solid,
)

SIXTY = 10 ** 60 - 1  # sixty figures, all of them 9
MORE = 10 ** 60       # sixty-one
NO_NUMBERS = (
    "", "-", "--1", "-/2", "+1", "+", "1/", "/", "/2", "-1/", "1/0", "1/00", "0/0", "1/-2", "1/+2", "1//2", "1/2/3",
    " 1", "1 ", " ", "1 2", "- 1", "1 /2", "1/ 2", "a", "1a", "a1", "x", "1e5", "0x1", "1.0", "1.", ".5", "1,0", "1_0",
    "_1", "1__0", "1-", "1-2", "1/2-", "none", "inf", "nan", "True", "(1)", "1\n", "\n1", "1\t", "1|2",
    "\u0661", "1\u0662", "\u00b2", "1/\u0663", "\uff11", "\u2212" + "1", "\u2460", "1\u00a0", "\u09e7\u09e8",
    str(MORE), "-" + str(MORE), "0" * 61, "0" * 60 + "1", "1/" + str(MORE), "1/" + "0" * 60 + "1", "1/" + "0" * 60,
)
TRIANGLE = "0 0 0, 1 0 0, 0 1 0"
TETRA_TEXT = (
    "0 0 0, 3 0 0, 0 2 0 | 0 0 0, 3 0 0, 0 0 1 | 0 0 0, 0 2 0, 0 0 1 | 3 0 0, 0 2 0, 0 0 1")


class Numbers(unittest.TestCase):
    def test_written(self):
        for number, text in (
            ((0, 1), "0"), ((-3, 2), "-3/2"), ((4, 1), "4"), ((-4, 1), "-4"), ((1, 2), "1/2"), ((100, 1), "100"),
            ((7, 100), "7/100"), ((SIXTY, 1), "9" * 60), ((-SIXTY, 1), "-" + "9" * 60), ((1, SIXTY), "1/" + "9" * 60),
            ((-SIXTY + 1, SIXTY), "-" + str(SIXTY - 1) + "/" + "9" * 60), ((10 ** 59, 1), "1" + "0" * 59),
        ):
            self.assertEqual(shown_number(number), text)
            self.assertEqual(read_number(text), number)

    def test_too_great_ones(self):
        for number in (
            (MORE, 1), (-MORE, 1), (1, MORE), (-1, MORE), (MORE, MORE + 1), (SIXTY, MORE), (MORE + 1, SIXTY),
            (10 ** 5000, 1), (1, 10 ** 5000), (-10 ** 5000, 1),
        ):
            with self.assertRaises(TooGreat) as caught:
                shown_number(number)
            self.assertIs(type(caught.exception), TooGreat)

    def test_read(self):
        for text, number in (
            ("007", (7, 1)), ("-0", (0, 1)), ("3/6", (1, 2)), ("4/1", (4, 1)), ("-4/6", (-2, 3)), ("0/5", (0, 1)),
            ("-0/7", (0, 1)), ("-007/014", (-1, 2)), ("00", (0, 1)), ("6/003", (2, 1)), ("0" * 60, (0, 1)),
            ("0" * 59 + "5", (5, 1)), ("-" + "9" * 60, (-SIXTY, 1)), ("9" * 60 + "/" + "9" * 60, (1, 1)),
            ("1/" + "0" * 59 + "2", (1, 2)), ("-" + "8" * 60 + "/" + "4" * 60, (-2, 1)),
        ):
            found = read_number(text)
            self.assertEqual(found, number, text)
            self.assertTrue(is_numbers(found, 2))

    def test_no_numbers(self):
        for text in NO_NUMBERS:
            with self.assertRaises(NoText, msg=repr(text)) as caught:
                read_number(text)
            self.assertIs(type(caught.exception), NoText)

    def test_every_sign_alone_and_behind_a_figure(self):
        for code in range(32, 127):
            sign = chr(code)
            for text in (sign, "1" + sign, sign + "1", "1/" + sign, "1" + sign + "2", "1/2" + sign):
                if all(c in "0123456789" for c in text.replace("/", "", 1).removeprefix("-")):
                    continue
                with self.assertRaises(NoText, msg=repr(text)):
                    read_number(text)


class Points(unittest.TestCase):
    def test_written(self):
        for p, text in (
            ((0, 0, 0, 1), "0 0 0"), ((1, -2, 3, 1), "1 -2 3"), ((1, 2, 3, 6), "1/6 1/3 1/2"), ((6, -3, 0, 4), "3/2 -3/4 0"),
            ((SIXTY, 0, 1, 1), "9" * 60 + " 0 1"), ((1, 0, SIXTY, SIXTY), "1/" + "9" * 60 + " 0 1"),
        ):
            self.assertEqual(shown_point(p), text)
            self.assertEqual(read_point(text), p)

    def test_too_great_ones(self):
        for p in (
            (MORE, 0, 0, 1), (0, -MORE, 0, 1), (0, 0, MORE, 1), (1, 0, 0, MORE), (0, 0, 1, MORE), (1, 1, 1, 10 ** 5000),
        ):
            with self.assertRaises(TooGreat):
                shown_point(p)
        # The four numbers may be greater than the measures' own.
        p = (2 * 10 ** 59, 3 * 10 ** 59, 0, 6 * 10 ** 59 + 1)
        self.assertEqual(read_point(shown_point(p)), p)
        great = (10 ** 59 + 1, 10 ** 59 + 3)
        p = (great[0] * 3, great[1] * 5, 0, great[0] * great[1])
        self.assertEqual(shown_point(p), f"3/{great[1]} 5/{great[0]} 0")

    def test_read(self):
        for text, p in (
            ("007 -0 3/6", (14, 0, 1, 2)), ("4/1 1/2 1/3", (24, 3, 2, 6)), ("1/4 1/6 -1/10", (15, 10, -6, 60)),
            ("2/4 3/6 5/10", (1, 1, 1, 2)),
        ):
            self.assertEqual(read_point(text), p)
            self.assertTrue(is_numbers(read_point(text), 4))

    def test_no_points(self):
        for text in (
            "", " ", "  ", "0", "0 0", "0 0 0 0", "0  0 0", "0 0  0", " 0 0 0", "0 0 0 ", "0 0 ", " 0 0", "0,0,0", "0, 0, 0",
            "0 0 0,", "0 0 x", "x 0 0", "0 1/0 0", "0 0 1/", "0\t0 0", "0 0 0\n", "0 0 0 |", "none", "0 0 +1", "0 0 1.5",
            "0 0 " + str(MORE), "1/" + str(MORE) + " 0 0", "(0 0 0)", "0 - 0",
        ):
            with self.assertRaises(NoText, msg=repr(text)):
                read_point(text)

    def test_written_and_read(self):
        for p in some_points(60, 191, 999):
            self.assertEqual(read_point(shown_point(p)), p)
            x, y, z = (Fraction(n, p[3]) for n in p[:3])
            self.assertEqual(shown_point(p), f"{x} {y} {z}")


class Rings(unittest.TestCase):
    def test_written(self):
        p, q, r = (0, 0, 0, 1), (1, -2, 3, 2), (5, 0, 0, 1)
        for rings, text in (
            ((), "none"), ([], "none"), (((p,),), "0 0 0"), (((p, q),), "0 0 0, 1/2 -1 3/2"),
            (((p, q, r), (r,)), "0 0 0, 1/2 -1 3/2, 5 0 0 | 5 0 0"), (((p,), (p,), (p, p)), "0 0 0 | 0 0 0 | 0 0 0, 0 0 0"),
        ):
            self.assertEqual(shown_rings(rings), text)
            self.assertEqual(read_rings(text), tuple(rings))
            listed = [list(ring) for ring in rings]
            self.assertEqual(shown_rings(listed), text)
            self.assertEqual(listed, [list(ring) for ring in rings])
            self.assertEqual(shown_rings(tuple(listed)), text)
            self.assertEqual(shown_rings(list(rings)), text)

    def test_read(self):
        for text, rings in (
            ("none", ()), ("0 0 0", (((0, 0, 0, 1),),)), ("007 -0 4/8 | 1 1 1", (((14, 0, 1, 2),), ((1, 1, 1, 1),))),
            (TRIANGLE, (((0, 0, 0, 1), (1, 0, 0, 1), (0, 1, 0, 1)),)),
        ):
            found = read_rings(text)
            self.assertEqual(found, rings)
            self.assertTrue(is_plain(found) and type(found) is tuple)

    def test_no_rings(self):
        for text in (
            "", " ", "|", " | ", "0 0 0 | ", " | 0 0 0", "0 0 0 |  | 0 0 0", "0 0 0 | | 0 0 0", "0 0 0|0 0 0", "0 0 0| 0 0 0",
            "0 0 0 |0 0 0", "0 0 0  | 0 0 0", "0 0 0 |  0 0 0", "0 0 0 || 0 0 0", "0 0 0,", "0 0 0, ", ", 0 0 0", ",", ", ",
            "0 0 0,0 0 0", "0 0 0 , 0 0 0", "0 0 0,  0 0 0", "0 0 0, , 0 0 0", "0 0 0,, 0 0 0", "0 0 0 0 0 0", "0 0 0; 0 0 0",
            " 0 0 0", "0 0 0 ", "none ", " none", "None", "NONE", "none | none", "none | 0 0 0", "0 0 0 | none", "none, none",
            "nonenone", "0 0 0\n| 0 0 0", "0 0, 0 0 0", TRIANGLE + " |", "| " + TRIANGLE, TRIANGLE + ",",
        ):
            for asked in (read_rings, read):
                with self.assertRaises(NoText, msg=repr(text)):
                    asked(text)

    def test_too_great_ones(self):
        good, great = (0, 0, 0, 1), (0, 1, 0, MORE)
        for rings in (((great,),), ((good, great),), ((good,), (good, good, great)), [[good], [great, good]]):
            with self.assertRaises(TooGreat):
                shown_rings(rings)

    def test_altering_lists_alters_no_answer(self):
        handed = [[(0, 0, 0, 1)], [(1, 2, 3, 1), (1, 1, 1, 2)]]
        text = shown_rings(handed)
        handed[1].pop()
        handed.pop(0)
        self.assertEqual(text, "0 0 0 | 1 2 3, 1/2 1/2 1/2")
        self.assertEqual(shown_rings(handed), "1 2 3")

    def test_written_and_read(self):
        chance = random.Random(192)
        points = some_points(200, 193, 99)
        for k in range(20):
            rings = tuple(
                tuple(chance.choice(points) for n in range(chance.randint(1, 20))) for m in range(chance.randint(0, 9)))
            self.assertEqual(read_rings(shown_rings(rings)), rings)
        many = tuple((p,) * (k % 20 + 1) for k, p in enumerate(points))
        self.assertEqual(read_rings(shown_rings(many)), many)


class Bodies(unittest.TestCase):
    def test_written(self):
        self.assertEqual(shown(()), "none")
        tetra = body_of(PLAIN.heap(TETRA))
        self.assertEqual(
            shown(tetra), "0 0 0, 0 0 1, 0 2 0 | 0 0 0, 3 0 0, 0 0 1 | 0 0 0, 0 2 0, 3 0 0 | 0 0 1, 3 0 0, 0 2 0")
        self.assertEqual(read(TETRA_TEXT), tetra)
        self.assertEqual(read("none"), ())

    def test_written_as_the_heap(self):
        for frame in FRAMES:
            for name, (rings, walls) in HEAPS.items():
                body = frame.body(walls)
                self.assertEqual(shown(body), shown_rings(heap_of(body)))
                self.assertEqual(read(shown(body)), body)
            for walls in (NICKED, HOLED):
                body = frame.body(walls)
                self.assertEqual(read(shown(body)), body)

    def test_read_by_odd_and_even(self):
        # Rings that tell no points, that come twice, that go the other way round.
        tetra = body_of(PLAIN.heap(TETRA))
        for text in (
            TETRA_TEXT + " | " + TRIANGLE + " | " + TRIANGLE, "1 1 1 | " + TETRA_TEXT, TETRA_TEXT + " | 5 5 5, 5 5 5",
            "7 7 7, 8 8 8 | " + TETRA_TEXT, " | ".join(TETRA_TEXT.split(" | ")[::-1]),
            " | ".join(", ".join(ring.split(", ")[::-1]) for ring in TETRA_TEXT.split(" | ")),
            TETRA_TEXT.replace("3 0 0", "006/2 -0 0/9"),
        ):
            self.assertEqual(read(text), tetra)
        self.assertEqual(read(TETRA_TEXT + " | " + TETRA_TEXT), ())
        self.assertEqual(read("1 2 3"), ())

    def test_no_text_ahead_of_not_flat_ahead_of_not_closed(self):
        bent = "0 0 0, 1 0 0, 1 1 0, 0 1 1"
        for text, kind in (
            (bent + " | x", NoText), (bent + " | " + TRIANGLE + " ", NoText), (TRIANGLE + " | ", NoText),
            (bent + " | " + TRIANGLE, NotFlat), (TRIANGLE + " | " + bent, NotFlat), (bent, NotFlat), (TRIANGLE, NotClosed),
            (TETRA_TEXT + " | " + TRIANGLE, NotClosed), (TETRA_TEXT + " | " + bent, NotFlat),
        ):
            with self.assertRaises(YardError) as caught:
                read(text)
            self.assertIs(type(caught.exception), kind, text)

    def test_fields_of_the_refusals(self):
        bent = "0 0 0, 1 0 0, 1 1 0, 0 1 1"
        for text, at in ((bent, 0), (TRIANGLE + " | 1 1 1 | " + bent + " | " + bent, 2), (TETRA_TEXT + " | " + bent, 4)):
            with self.assertRaises(NotFlat) as caught:
                read(text)
            self.assertEqual(caught.exception.at, at)
            self.assertIs(type(caught.exception.at), int)
        with self.assertRaises(NotClosed) as caught:
            read(TRIANGLE)
        self.assertEqual(caught.exception.gap, ((0, 0, 0, 1), (0, 1, 0, 1)))
        with self.assertRaises(NotClosed) as caught:
            read(" | ".join(TETRA_TEXT.split(" | ")[:3]))
        self.assertEqual(caught.exception.gap, ((0, 0, 1, 1), (0, 2, 0, 1)))
        self.assertTrue(is_plain(caught.exception.gap))

    def test_too_great_ones(self):
        for high in (MORE, Fraction(1, MORE), Fraction(MORE + 1, 2)):
            body = body_of(PLAIN.heap(box_rings((0, 0, 0), (1, 1, high))))
            with self.assertRaises(TooGreat):
                shown(body)
        for high in (SIXTY, Fraction(1, SIXTY), Fraction(SIXTY, 2)):
            body = body_of(PLAIN.heap(box_rings((0, 0, 0), (1, 1, high))))
            self.assertEqual(read(shown(body)), body)

    def test_written_and_read(self):
        chance = random.Random(194)
        for k in range(30):
            body = body_of(FRAMES[k % len(FRAMES)].heap(some_solid(chance) + some_solid(chance) + some_solid(chance)))
            self.assertEqual(read(shown(body)), body)
        for name, (rings, *told) in SOUND.items():
            body = body_of(FRAMES[2].heap(rings))
            self.assertEqual(read(shown(body)), body)

    def test_more_rings_and_points_than_may_be_handed_in(self):
        # A board of towers of unlike heights, with a wall of more than twenty points.
        rings = []
        for x in range(8):
            for y in range(8):
                rings.append(box_rings((3 * x, 3 * y, 0), (3 * x + 2, 3 * y + 1, 1 + 8 * x + y)))
        body = body_of(PLAIN.heap([ring for box in rings for ring in box]))
        self.assertGreater(len(heap_of(body)), 200)
        text = shown(body)
        self.assertEqual(read(text), body)
        self.assertEqual(read_rings(text), heap_of(body))
        comb = box_rings((0, 0, 0), (40, 1, 1))
        for x in range(0, 40, 2):
            comb = comb + box_rings((x, 0, 1), (x + 1, 1, 2))
        body = body_of(PLAIN.heap(comb))
        self.assertGreater(max(len(ring) for ring in heap_of(body)), 60)
        self.assertEqual(read(shown(body)), body)


if __name__ == "__main__":
    unittest.main()
