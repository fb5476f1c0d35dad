"""What holds throughout: [2] and [3]. Answers are built of whole numbers, and hang on the arguments alone."""

import unittest
from fractions import Fraction

from solidyard.bodies import body_of, heap_of, is_body
from solidyard.corners import bits, corners, counts
from solidyard.cuts import cut, diced, joined_all, part
from solidyard.desk import Desk
from solidyard.errors import YardError
from solidyard.fronts import land_before
from solidyard.lands import is_land, land_of, land_over, land_place, spread
from solidyard.landwords import land_common, land_either, land_joined, land_less
from solidyard.lines import line_common, line_through, on_line, spot
from solidyard.lowest import divided, divisor, fraction, minus, plus, ranked, times
from solidyard.moves import after, moved, moved_plane, moved_point, table, undone
from solidyard.plain import is_plain as is_plain_body
from solidyard.planes import height, over, plane, plane_through
from solidyard.points import amid, point, turn
from solidyard.rims import land_part, rim, trace
from solidyard.rows import row_common, row_either, row_joined, row_less, row_of, row_place
from solidyard.shells import handles, nest, pieces, shells
from solidyard.texts import read, read_number, read_point, read_rings, shown, shown_number, shown_point, shown_rings
from solidyard.volumes import place, volume
from solidyard.ways import beyond
from solidyard.words import common, either, joined, less
from tests.helper import CUBE, FRAMES, GREAT, HEAPS, HUGE, OVERLAP, SHEETS, TETRA, cube_rings, is_plain

P, Q, R, S = (1, 2, 3, 4), (0, 5, 1, 2), (-7, 0, 2, 3), (HUGE, 1, 0, GREAT)
OF_POINTS = (
    (divisor, (12, -18)), (divisor, (0, 0)), (divisor, (1, 0)),
    (fraction, (6, -4)), (fraction, (0, -1)), (fraction, (5, 5)),
    (plus, ((1, 2), (1, 2))), (minus, ((1, 2), (1, 2))), (times, ((1, 2), (2, 1))), (divided, ((1, 2), (1, 2))),
    (ranked, ((1, 2), (1, 2))), (ranked, ((1, 2), (1, 3))), (ranked, ((1, 3), (1, 2))),
    (point, (2, 4, 6, -8)), (point, (0, 0, 0, -1)), (point, (1, 0, 1, 1)), (amid, (P, P)), (amid, (P, Q)),
    (turn, (P, Q, R, S)), (turn, (Q, P, R, S)), (turn, (P, P, Q, R)),
    (plane, (0, 0, -2, 0)), (plane, (1, 0, 0, 1)), (over, ((0, 0, -1, 1),)),
    (height, ((1, 0, 0, 0), P)), (height, ((0, 0, 1, 0), (1, 1, 0, 1))),
    (plane_through, (P, Q, R)), (plane_through, (Q, P, S)),
)
LINE = (1, 0, 0, 0, 0, 0)
A, B, C, D = (0, 0, 0, 1), (3, 0, 0, 4), (1, 0, 0, 1), (HUGE, 0, 0, GREAT)
ONE, OTHER = ((A, C),), ((B, D),)
ON_LINES = (
    (line_through, (P, Q)), (line_through, (A, (1, 0, 0, 1))), (line_through, (Q, S)),
    (line_common, ((0, 0, 1, 0), (0, 1, 0, 0))), (line_common, ((1, 2, 3, 4), (4, 3, 2, 1))),
    (spot, (LINE, (1, 0, 0, -1))), (spot, (LINE, (-3, 1, 1, 2))),
    (row_of, (LINE, ((B, A), (C, B), (D, D)))), (row_of, (LINE, ())), (row_of, (LINE, [(D, B), (A, C)])),
    (row_place, (LINE, ONE, B)), (row_place, (LINE, ONE, C)), (row_place, (LINE, ONE, D)),
    (row_joined, (LINE, ONE, OTHER)), (row_common, (LINE, ONE, OTHER)),
    (row_less, (LINE, ONE, OTHER)), (row_either, (LINE, ONE, OTHER)), (row_less, (LINE, ONE, ONE)),
)
SHEET = SHEETS[4]
LAND, HOLE = SHEET.land(SHEET.square(0, 0, 6)), SHEET.land(SHEET.square(2, 2))
HOLED = SHEET.land(SHEET.square(0, 0, 6), SHEET.square(2, 2)[::-1])
RINGS = [SHEET.square(0, 0, 6), list(SHEET.square(2, 2)), [], [SHEET.at(0, 0)]]
ACROSS = (1, 0, 0, -1)
IN_PLANES = (
    (land_of, (SHEET.plane, RINGS)), (land_of, (SHEET.plane, ())), (land_over, (HOLED,)),
    (land_place, (HOLED, SHEET.at(0, 0))), (land_place, (HOLED, SHEET.at(1, 1))), (land_place, (HOLED, SHEET.at(3, 3))),
    (spread, (HOLED,)), (spread, ((SHEET.plane, ()),)),
    (land_joined, (HOLED, HOLE)), (land_common, (LAND, HOLE)), (land_less, (LAND, HOLE)), (land_either, (LAND, HOLE)),
    (rim, (HOLED, ACROSS)), (trace, (HOLED, ACROSS)), (land_part, (HOLED, ACROSS)), (rim, (HOLED, SHEET.plane)),
)
FRAME = FRAMES[2]
BODY, OTHER_BODY = FRAME.body([[ring] for ring in CUBE]), FRAME.body([[ring] for ring in TETRA])
OF_BODIES = (
    (body_of, (FRAME.heap(CUBE + TETRA),)), (body_of, ([],)), (body_of, ([list(ring) for ring in FRAME.heap(TETRA)],)),
    (heap_of, (BODY,)), (heap_of, ((),)), (land_before, (BODY, (1, 1, 1, -1))), (land_before, (BODY, BODY[0][0])),
    (joined, (BODY, OTHER_BODY)), (common, (BODY, OTHER_BODY)), (less, (BODY, OTHER_BODY)),
    (either, (BODY, OTHER_BODY)), (either, (BODY, BODY)), (joined, (FRAME.body(OVERLAP), BODY)),
)
SPOT, WAY = FRAME.at(2, 2, 2), (3, -5, 1)
ASKED_OF_BODIES = (
    (corners, (BODY,)), (corners, ((),)), (bits, (BODY,)), (bits, ((),)), (counts, (BODY,)), (counts, ((),)),
    (volume, (BODY,)), (volume, ((),)), (volume, (OTHER_BODY,)),
    (place, (BODY, SPOT)), (place, (BODY, BODY[0][1][0][0])), (place, ((), SPOT)),
    (beyond, (BODY, SPOT, WAY)), (beyond, (BODY, FRAME.at(*[Fraction(1, 3)] * 3), WAY)), (beyond, ((), SPOT, WAY)),
    (cut, (BODY, (1, 1, 1, -1))), (cut, ((), ACROSS)), (part, (BODY, (1, 1, 1, -1))), (part, ((), ACROSS)),
    (diced, (BODY, [(1, 1, 1, -1), ACROSS])), (diced, (BODY, ())), (diced, ((), [ACROSS])),
    (joined_all, ([BODY, OTHER_BODY, ()],)), (joined_all, ((),)),
)
BY = ((2, -1, 3, 4), (1, 5, -2, -7), (-3, 0, 1, 1), 4)
NESTED = body_of(FRAME.heap([ring for k in range(4) for ring in cube_rings(k, k, k, 9 - 2 * k)]))
OF_PLAIN_ONES = (
    (shells, (NESTED,)), (shells, ((),)), (pieces, (NESTED,)), (pieces, ((),)), (handles, (NESTED,)), (handles, ((),)),
    (nest, ((),)),
    (table, BY), (table, ((2, 0, 0, 0), (0, 2, 0, 0), (0, 0, 2, 0), -2)), (after, (BY, BY)), (undone, (BY,)),
    (moved_point, (P, BY)), (moved_plane, ((1, 2, 3, 4), BY)), (moved, (BODY, BY)), (moved, ((), BY)), (moved, (NESTED, BY)),
    (read_number, ("-6/4",)), (read_number, ("007",)), (read_point, ("1 1/2 -0",)), (read_rings, ("none",)),
    (read_rings, ("0 0 0, 1 1 1 | 2 2 2",)), (read, ("none",)), (read, (shown(BODY),)),
)
QUESTIONS = OF_POINTS + ON_LINES + IN_PLANES + OF_BODIES + ASKED_OF_BODIES + OF_PLAIN_ONES
TEXTS = (
    (shown_number, ((-3, 2),)), (shown_number, ((0, 1),)), (shown_point, (P,)), (shown_rings, ([[P, Q], [R]],)),
    (shown_rings, ((),)), (shown, (BODY,)), (shown, ((),)),
)
REFUSED = (
    (fraction, (1, 0)), (divided, ((1, 2), (0, 1))), (point, (1, 2, 3, 0)), (plane, (0, 0, 0, 1)),
    (plane_through, (P, P, Q)), (line_through, (P, P)), (row_of, (LINE, [(A, P)])), (row_place, (LINE, ONE, P)),
    (land_of, (SHEET.plane, [[SHEET.off(0, 0)]])), (land_place, (LAND, SHEET.off(0, 0))),
    (beyond, (BODY, SPOT, (0, 0, 0))), (beyond, (BODY, BODY[0][1][0][0], WAY)), (land_joined, (LAND, land_over(LAND))),
    (body_of, (FRAME.heap(CUBE[:-1]),)), (body_of, ([(P, Q, R, (9, 9, 9, 1))],)),
    (shells, (FRAME.body(OVERLAP),)), (nest, (FRAME.body(OVERLAP),)), (pieces, (FRAME.body(OVERLAP),)),
    (handles, (FRAME.body(OVERLAP),)), (table, ((1, 0, 0, 0), (0, 1, 0, 0), (0, 0, 1, 0), 0)), (read_number, ("x",)),
    (read_point, ("",)), (read_rings, ("",)), (read, ("0 0 0, 1 0 0, 0 1 0",)), (shown_number, ((10 ** 60, 1),)),
    (shown_point, ((1, 0, 0, 10 ** 60),)), (shown_rings, ([[(1, 0, 0, 10 ** 60)]],)), (shown, (moved(BODY, (
        (10 ** 60, 0, 0, 0), (0, 1, 0, 0), (0, 0, 1, 0), 1)),)), (Desk().tell, ("undo",)), (Desk().tell, ("again",)),
    (Desk().tell, ("",)), (Desk().tell, ("shown a",)),
)
NUMBERS = (int, tuple)


def parts(answer):
    """All that an answer is built of, itself included."""
    found = [answer]
    if type(answer) is tuple:
        for part in answer:
            found.extend(parts(part))
    return found


class Built(unittest.TestCase):
    def test_of_whole_numbers_and_tuples(self):
        for asked, arguments in QUESTIONS:
            answer = asked(*arguments)
            self.assertTrue(is_plain(answer), (asked, arguments))
            self.assertTrue(all(type(part) in NUMBERS for part in parts(answer)), (asked, arguments))

    def test_true_false_and_none(self):
        self.assertIs(on_line(LINE, A), True)
        self.assertIs(on_line(LINE, P), False)
        self.assertIs(line_common((0, 0, 1, 0), (0, 0, 1, 5)), None)
        self.assertIs(spot(LINE, (0, 0, 1, 5)), None)
        self.assertIs(is_land(HOLED), True)
        self.assertIs(is_land(land_over(HOLED)[:1] + HOLED[1:]), False)
        self.assertIs(is_body(BODY), True)
        self.assertIs(is_body(BODY[::-1]), False)
        self.assertIs(is_plain_body(BODY), True)
        self.assertIs(is_plain_body(FRAME.body(OVERLAP)), False)
        found = nest(NESTED)
        self.assertTrue(type(found) is tuple and all(at is None or type(at) is int for at in found))
        self.assertEqual(found.count(None), 1)

    def test_texts(self):
        for asked, arguments in TEXTS:
            answer = asked(*arguments)
            self.assertIs(type(answer), str)
            self.assertEqual(asked(*arguments), answer)
        self.assertIs(type(Desk().tell("names")), str)

    def test_the_same_when_asked_again(self):
        first = [asked(*arguments) for asked, arguments in QUESTIONS]
        backwards = [asked(*arguments) for asked, arguments in QUESTIONS[::-1]]
        again = [asked(*arguments) for asked, arguments in QUESTIONS]
        self.assertEqual(first, backwards[::-1])
        self.assertEqual(first, again)

    def test_the_same_behind_refusals(self):
        first = [asked(*arguments) for asked, arguments in QUESTIONS]
        for asked, arguments in REFUSED:
            with self.assertRaises(YardError):
                asked(*arguments)
        self.assertEqual([asked(*arguments) for asked, arguments in QUESTIONS], first)

    def test_each_question_twice_over(self):
        for asked, arguments in QUESTIONS:
            self.assertEqual(asked(*arguments), asked(*arguments), (asked, arguments))


class Lists(unittest.TestCase):
    def test_altering_a_list_alters_no_answer(self):
        handed = [(A, B), (C, D)]
        first = row_of(LINE, handed)
        self.assertEqual(handed, [(A, B), (C, D)])
        handed[0] = (A, D)
        self.assertEqual(first, ((A, B), (C, D)))
        self.assertEqual(row_of(LINE, handed), ((A, C),))
        self.assertEqual(row_of(LINE, [(A, B), (C, D)]), first)

    def test_altering_rings_alters_no_answer(self):
        for asked in (lambda rings: land_of(SHEET.plane, rings), lambda rings: body_of(rings + rings)):
            handed = [list(SHEET.square(0, 0, 6)), list(SHEET.square(2, 2))]
            first = asked(handed)
            self.assertEqual(handed, [list(SHEET.square(0, 0, 6)), list(SHEET.square(2, 2))])
            handed[1][0] = SHEET.at(1, 1)
            second = asked(handed)
            handed.pop()
            third = asked(handed)
            self.assertEqual(asked([SHEET.square(0, 0, 6), SHEET.square(2, 2)]), first)
            bent = SHEET.ring((1, 1), (4, 2), (4, 4), (2, 4))
            self.assertEqual(asked([SHEET.square(0, 0, 6), bent]), second)
            self.assertEqual(asked([SHEET.square(0, 0, 6)]), third)

    def test_altering_a_heap_alters_no_answer(self):
        handed = [list(ring) for ring in FRAME.heap(CUBE)]
        first = body_of(handed)
        for ring in handed:
            ring.reverse()
            ring.pop()
        handed.clear()
        self.assertEqual(first, BODY)
        self.assertEqual(body_of([list(ring) for ring in FRAME.heap(CUBE)]), BODY)

    def test_the_field_of_a_refusal_is_not_altered_later(self):
        handed = [list(ring) for ring in FRAME.heap(CUBE[:-1])]
        with self.assertRaises(YardError) as caught:
            body_of(handed)
        gap = caught.exception.gap
        self.assertTrue(is_plain(gap))
        kept = tuple(gap)
        handed.clear()
        self.assertEqual(caught.exception.gap, kept)

    def test_bodies_asked_about_stay_as_they_are(self):
        for name, (rings, walls) in HEAPS.items():
            body = FRAME.body(walls)
            heap_of(body), is_body(body), land_before(body, ACROSS), joined(body, BODY)
            self.assertEqual(body, FRAME.body(walls))

    def test_rows_asked_about_stay_as_they_are(self):
        for told in (row_joined, row_common, row_less, row_either):
            told(LINE, ONE, OTHER)
            self.assertEqual((ONE, OTHER), (((A, C),), ((B, D),)))


if __name__ == "__main__":
    unittest.main()
