"""The desk: [57] to [61]."""

import inspect
import random
import unittest

from solidyard.bodies import body_of
from solidyard.cuts import cut, part
from solidyard.desk import Desk
from solidyard.errors import (
    FlatMove, NoAgain, NoName, NoPlane, NoRow, NoText, NotClosed, NotFlat, NoUndo, Pinched, TooGreat, YardError,
)
from solidyard.moves import moved, table
from solidyard.texts import shown, shown_rings
from solidyard.words import common, either, joined, less
from tests.helper import CUBE, PINCHED, PLAIN, SOUND, TETRA, box_rings, cube_rings, some_plane, some_solid, tube

BOX_BODY = body_of(PLAIN.heap(box_rings((0, 0, 0), (2, 3, 4))))
TETRA_BODY = body_of(PLAIN.heap(TETRA))
CUBE_BODY = body_of(PLAIN.heap(cube_rings(1, 1, 1, 5)))
BOX_TEXT, TETRA_TEXT, CUBE_TEXT = (shown(body) for body in (BOX_BODY, TETRA_BODY, CUBE_BODY))
BENT = "0 0 0, 1 0 0, 1 1 0, 0 1 1"
TRIANGLE = "0 0 0, 1 0 0, 0 1 0"
STAY = "1 0 0 0 0 1 0 0 0 0 1 0 1"
WORDS = {"joined": joined, "common": common, "less": less, "either": either}


def desk_with(**bodies):
    desk = Desk()
    for name, body in bodies.items():
        desk.tell(f"put {name} {shown(body)}")
    return desk


def full():
    """A desk with a box, a tetrahedron and a body without points."""
    return desk_with(box=BOX_BODY, tetra=TETRA_BODY, empty=())


def state(desk):
    """All that names stand for, as texts."""
    names = desk.tell("names")
    return {name: desk.tell(f"shown {name}") for name in names.split(" ")} if names != "none" else {}


class Case(unittest.TestCase):
    def refuse(self, desk, line, kind):
        """The line is refused with this kind, and nothing is changed by it."""
        before = state(desk)
        with self.assertRaises(YardError, msg=repr(line)) as caught:
            desk.tell(line)
        self.assertIs(type(caught.exception), kind, repr(line))
        self.assertEqual(state(desk), before)

    def check(self, desk, *pairs):
        for line, answer in pairs:
            found = desk.tell(line)
            self.assertEqual(found, answer, line)
            self.assertIs(type(found), str)


class Names(Case):
    def test_a_new_desk(self):
        self.check(Desk(), ("names", "none"))
        self.assertIn("tell", vars(Desk))
        self.assertEqual(str(inspect.signature(Desk.tell)), "(self, line)")
        self.assertEqual(str(inspect.signature(Desk)), "()")

    def test_sorted_as_texts(self):
        desk = Desk()
        for name in ("b", "zz", "a", "ab", "aa", "abcdefghijkl", "none", "put", "names"):
            self.check(desk, (f"put {name} none", "done"))
        self.check(desk, ("names", "a aa ab abcdefghijkl b names none put zz"))

    def test_of_one_and_of_twelve_letters(self):
        desk = Desk()
        for name in ("a", "z", "abcdefghijkl", "zzzzzzzzzzzz"):
            self.check(desk, (f"put {name} {BOX_TEXT}", "done"), (f"shown {name}", BOX_TEXT), (f"drop {name}", "done"))
        self.check(desk, ("names", "none"))

    def test_what_is_no_name(self):
        for name in (
            "", "A", "Box", "a1", "1", "a_b", "a-b", "abcdefghijklm", "a.b", "\u00e9", "\u0430", "a|", "a,", "none!", "-", "\u00df", "\u017f",
        ):
            desk = full()
            for line in (
                f"put {name} none", f"drop {name}", f"shown {name}", f"volume {name}", f"place {name} 0 0 0", f"cut {name} 1 0 0 0",
                f"counts {name}", f"handles {name}", f"lies {name} box", f"lies box {name}", f"joined {name} box box",
                f"common a {name} box", f"less a box {name}", f"part {name} box 1 0 0 0", f"part a {name} 1 0 0 0",
                f"moved {name} box {STAY}", f"moved a {name} {STAY}",
            ):
                with self.assertRaises(NoRow, msg=repr(line)):
                    desk.tell(line)
            self.assertEqual(state(desk), state(full()))


class Deeds(Case):
    def test_put(self):
        desk = Desk()
        self.check(
            desk, (f"put a {TETRA_TEXT}", "done"), ("names", "a"), ("shown a", TETRA_TEXT), ("put b none", "done"),
            ("shown b", "none"), (f"put a {BOX_TEXT}", "done"), ("shown a", BOX_TEXT), ("names", "a b"),
            ("put c 0 0 0 | 007 -0 4/8, 1 1 1", "done"), ("shown c", "none"),
        )

    def test_put_refused(self):
        for rest, kind in (
            ("", NoText), (" ", NoText), (" none", NoText), ("none ", NoText), ("none none", NoText), ("x", NoText),
            (BENT, NotFlat), (TRIANGLE, NotClosed), (BENT + " |", NoText), (BENT + " | " + TRIANGLE, NotFlat), ("box", NoText),
            (TETRA_TEXT + " ", NoText), ("0 0 " + "9" * 61, NoText), ("0 0 0 | ", NoText), (BOX_TEXT + " | " + TRIANGLE, NotClosed),
        ):
            self.refuse(full(), "put a " + rest, kind)
            self.refuse(full(), "put box " + rest, kind)
        for line in ("put", "put ", "put a", "put  none", "put  a none", "puta none", "put A none", "Put a none", " put a none"):
            self.refuse(full(), line, NoRow)

    def test_put_refusals_have_their_fields(self):
        with self.assertRaises(NotFlat) as caught:
            Desk().tell(f"put a {TRIANGLE} | {BENT}")
        self.assertEqual(caught.exception.at, 1)
        with self.assertRaises(NotClosed) as caught:
            Desk().tell(f"put a {TRIANGLE}")
        self.assertEqual(caught.exception.gap, ((0, 0, 0, 1), (0, 1, 0, 1)))

    def test_words(self):
        for word, made in WORDS.items():
            desk = desk_with(one=BOX_BODY, other=CUBE_BODY, empty=())
            for one, other, bodies in (
                ("one", "other", (BOX_BODY, CUBE_BODY)), ("other", "one", (CUBE_BODY, BOX_BODY)), ("one", "one", (BOX_BODY,) * 2),
                ("one", "empty", (BOX_BODY, ())), ("empty", "one", ((), BOX_BODY)),
            ):
                self.check(desk, (f"{word} new {one} {other}", "done"), ("shown new", shown(made(*bodies))))
            self.check(desk, ("shown one", BOX_TEXT), ("shown other", CUBE_TEXT), ("names", "empty new one other"))
            # The name itself may be one of those looked up, or both.
            self.check(desk, (f"{word} one one other", "done"), ("shown one", shown(made(BOX_BODY, CUBE_BODY))))
            self.check(desk, ("undo", "done"), (f"{word} other one other", "done"))
            self.check(desk, ("shown other", shown(made(BOX_BODY, CUBE_BODY))), ("shown one", BOX_TEXT))
            self.check(desk, (f"{word} one one one", "done"), ("shown one", shown(made(BOX_BODY, BOX_BODY))))

    def test_words_refused(self):
        for word in WORDS:
            for rest in ("a nope box", "a box nope", "nope nope nope", "box nope box", "nope box nope"):
                self.refuse(full(), f"{word} {rest}", NoName)
            for rest in (
                "", " ", " a", " a box", " a box tetra box", " a  box tetra", " a box  tetra", "  a box tetra", " a box tetra ",
                " a box Tetra", " a box 1", " A box tetra", " a nope", " a nope tetra box", " a box abcdefghijklm",
            ):
                self.refuse(full(), word + rest, NoRow)

    def test_part(self):
        desk = full()
        for numbers, plane in (
            ("1 0 0 -1", (1, 0, 0, -1)), ("-1 0 0 1", (-1, 0, 0, 1)), ("2 0 0 -2", (1, 0, 0, -1)), ("1 1 1 -2", (1, 1, 1, -2)),
            ("007 -0 00 -7", (1, 0, 0, -1)), ("0 0 1 5", (0, 0, 1, 5)), ("0 0 -1 -5", (0, 0, -1, -5)),
            ("1 2 -3 1", (1, 2, -3, 1)), ("1 0 0 " + "9" * 60, (1, 0, 0, 10 ** 60 - 1)), ("1 0 0 -" + "9" * 60, (1, 0, 0, 1 - 10 ** 60)),
        ):
            for name in ("new", "box"):
                self.check(desk, (f"part {name} box {numbers}", "done"), (f"shown {name}", shown(part(BOX_BODY, plane))))
                self.check(desk, ("undo", "done"))
        self.check(desk, ("part new empty 1 0 0 0", "done"), ("shown new", "none"))

    def test_part_refused(self):
        for rest, kind in (
            ("new nope 1 0 0 0", NoName), ("new nope 0 0 0 0", NoName), ("new box 0 0 0 0", NoPlane), ("new box 0 -0 000 7", NoPlane),
            ("new empty 0 0 0 1", NoPlane), ("box box 0 0 0 1", NoPlane), ("new nope 1 0 0", NoRow), ("new box 1 0 0", NoRow),
            ("new box 1 0 0 0 0", NoRow), ("new box 1 0 0 x", NoRow), ("new box 1/2 0 0 0", NoRow), ("new box 1 0 0 " + "9" * 61, NoRow),
            ("new box 1 0 0 " + "0" * 61, NoRow), ("new box 1 0  0 0", NoRow), ("new box 1 0 0 0 ", NoRow), ("new box 1 0 0 +1", NoRow),
            ("new box 1 0 0 --1", NoRow), ("new box 1 0 0 -", NoRow), ("new box 1 0 0 ", NoRow), ("new 1 0 0 0", NoRow),
            ("new box 1 0 0 1.0", NoRow), ("new box 1 0 0 1_0", NoRow), ("new box 1 0 0 \u0661", NoRow), ("new box 1 0 0 \u00b2", NoRow),
            ("", NoRow), ("new", NoRow), ("new box", NoRow), ("new box a b c d", NoRow), ("new box 1 0 0 1\n", NoRow),
        ):
            self.refuse(full(), f"part {rest}", kind)

    def test_moved(self):
        desk = full()
        for numbers in (
            "1 0 0 0 0 1 0 0 0 0 1 0 1", "1 0 0 5 0 1 0 -3 0 0 1 2 1", "-1 0 0 0 0 1 0 0 0 0 1 0 1", "2 -1 3 4 1 5 -2 -7 -3 0 1 1 -4",
            "007 0 0 0 0 7 -0 0 0 0 7 00 7", "1 0 0 " + "9" * 60 + " 0 1 0 0 0 0 1 0 1", "1 0 0 0 0 1 0 0 0 0 1 0 -" + "9" * 60,
        ):
            whole = [int(word) for word in numbers.split(" ")]
            by = table(tuple(whole[:4]), tuple(whole[4:8]), tuple(whole[8:12]), whole[12])
            for name in ("new", "box"):
                self.check(desk, (f"moved {name} box {numbers}", "done"))
                if "9999" not in numbers:
                    self.check(desk, (f"shown {name}", shown(moved(BOX_BODY, by))))
                self.check(desk, ("undo", "done"))
        self.check(desk, (f"moved new empty {STAY}", "done"), ("shown new", "none"))

    def test_moved_refused(self):
        flat = "1 0 0 0 0 1 0 0 1 1 0 0 1"
        for rest, kind in (
            (f"new nope {STAY}", NoName), (f"new nope {flat}", NoName), (f"new box {flat}", FlatMove),
            ("new box 1 0 0 0 0 1 0 0 0 0 1 0 0", FlatMove), ("new box 0 0 0 0 0 0 0 0 0 0 0 0 0", FlatMove),
            (f"new empty {flat}", FlatMove), (f"new box {STAY} 1", NoRow), (f"new box {STAY[:-2]}", NoRow), (f"new nope {STAY[:-2]}", NoRow),
            (f"new box {STAY} ", NoRow), (f"new  box {STAY}", NoRow), ("new box " + STAY.replace("1", "x", 1), NoRow),
            ("new box " + STAY.replace("1", "9" * 61, 1), NoRow), ("new box " + STAY.replace("1", "1/2", 1), NoRow), ("new box", NoRow),
            ("new " + STAY, NoRow), ("", NoRow),
        ):
            self.refuse(full(), f"moved {rest}", kind)

    def test_drop(self):
        desk = full()
        self.check(desk, ("drop box", "done"), ("names", "empty tetra"), ("drop empty", "done"), ("names", "tetra"))
        self.refuse(desk, "drop box", NoName)
        self.refuse(desk, "shown box", NoName)
        self.check(desk, (f"put box {CUBE_TEXT}", "done"), ("shown box", CUBE_TEXT), ("drop tetra", "done"), ("drop box", "done"))
        self.check(desk, ("names", "none"))
        for line in ("drop", "drop ", "drop box tetra", "drop  box", "drop box ", "drop Box"):
            self.refuse(full(), line, NoRow)


class Questions(Case):
    def test_shown_and_volume(self):
        desk = full()
        self.check(
            desk, ("shown box", BOX_TEXT), ("shown tetra", TETRA_TEXT), ("shown empty", "none"), ("volume box", "24"),
            ("volume tetra", "1"), ("volume empty", "0"), ("moved tetra tetra 1 0 0 0 0 1 0 0 0 0 1 0 2", "done"),
            ("volume tetra", "1/8"), ("shown tetra", shown(moved(TETRA_BODY, ((1, 0, 0, 0), (0, 1, 0, 0), (0, 0, 1, 0), 2)))),
        )

    def test_place(self):
        desk = full()
        self.check(
            desk, ("place box 1 1 1", "1"), ("place box 1/2 3/2 7/2", "1"), ("place box 0 0 0", "0"), ("place box 2 1 1", "0"),
            ("place box 2 3 2", "0"), ("place box 5 1 1", "-1"), ("place box -1/2 0 0", "-1"), ("place empty 0 0 0", "-1"),
            ("place box 001 -0 1", "0"), ("place box 4/2 1 1", "0"),
        )
        for rest in ("", " ", "0", "0 0", "0 0 0 0", "0 0 0 ", " 0 0 0", "0  0 0", "x y z", "0 0 1/0", "0 0 " + "9" * 61, "0 0 0, 1 1 1"):
            self.refuse(full(), "place box " + rest, NoText)
            self.refuse(full(), "place nope " + rest, NoName)
        for line in ("place", "place ", "place box", "place nope", "place  0 0 0", "place Box 0 0 0", "placebox 0 0 0", "place 0 0 0"):
            self.refuse(full(), line, NoRow)

    def test_cut(self):
        desk = full()
        for numbers, plane in (
            ("1 0 0 -1", (1, 0, 0, -1)), ("-3 0 0 3", (-1, 0, 0, 1)), ("1 1 1 -2", (1, 1, 1, -2)), ("2 0 0 -1", (2, 0, 0, -1)),
            ("1 2 -3 1", (1, 2, -3, 1)), ("-5 2 4 -1", (-5, 2, 4, -1)),
        ):
            for name, body in (("box", BOX_BODY), ("tetra", TETRA_BODY)):
                self.check(desk, (f"cut {name} {numbers}", shown_rings(cut(body, plane)[1])))
        self.check(
            desk, ("cut box 1 0 0 -1", "1 0 0, 1 3 0, 1 3 4, 1 0 4"), ("cut box -1 0 0 1", "1 0 0, 1 0 4, 1 3 4, 1 3 0"),
            ("cut box 1 0 0 0", "none"), ("cut box 1 0 0 7", "none"), ("cut empty 1 0 0 0", "none"), ("cut box 007 -0 0 -14", "none"),
        )
        for rest, kind in (
            ("box 0 0 0 0", NoPlane), ("empty 0 0 0 5", NoPlane), ("nope 0 0 0 0", NoName), ("nope 1 0 0 0", NoName), ("nope 1 0 0", NoRow),
            ("box 1 0 0", NoRow), ("box 1 0 0 0 0", NoRow), ("box 1 0 0 x", NoRow), ("box 1 0 0 " + "1" * 61, NoRow), ("box", NoRow),
            ("box 1 0 0 0 ", NoRow), ("box  1 0 0 0", NoRow), ("", NoRow), ("1 0 0 0", NoRow), ("box 1 0 0 1/2", NoRow),
        ):
            self.refuse(full(), f"cut {rest}", kind)

    def test_counts_and_handles(self):
        ring = body_of(PLAIN.heap(tube((0, 0, 0), (3, 3, 2), ((1, 1), (2, 2)))))
        desk = desk_with(ring=ring, bars=body_of(PLAIN.heap(SOUND["three bars"][0])), box=BOX_BODY, empty=())
        self.check(
            desk, ("counts box", "8 12 6 0"), ("counts empty", "0 0 0 0"), ("counts ring", "16 24 10 2"), ("handles box", "0"),
            ("handles empty", "0"), ("handles ring", "1"), ("handles bars", "3"),
        )

    def test_pinched(self):
        for name in ("at a corner", "along an edge", "two edges cross"):
            desk = desk_with(body=body_of(PLAIN.heap(PINCHED[name])), box=BOX_BODY)
            self.refuse(desk, "handles body", Pinched)
            self.check(desk, ("volume body", desk.tell("volume body")), ("handles box", "0"))
        self.refuse(desk, "handles nope", NoName)
        self.refuse(desk, "handles body box", NoRow)

    def test_lies(self):
        small = body_of(PLAIN.heap(CUBE))
        desk = desk_with(box=BOX_BODY, small=small, cube=CUBE_BODY, empty=())
        for line, answer in (
            ("small box", "yes"), ("box small", "no"), ("box box", "yes"), ("empty box", "yes"), ("box empty", "no"),
            ("empty empty", "yes"), ("cube box", "no"), ("box cube", "no"),
        ):
            self.check(desk, (f"lies {line}", answer))
        for rest in ("nope box", "box nope", "nope nope"):
            self.refuse(desk, f"lies {rest}", NoName)

    def test_too_great_answers(self):
        high = "9" * 60
        text = shown(body_of(PLAIN.heap(box_rings((0, 0, 0), (1, 1, 10 ** 60 - 1)))))
        desk = Desk()
        self.check(desk, (f"put a {text}", "done"), ("volume a", high), ("shown a", text))
        self.check(desk, ("moved b a 1 0 0 0 0 1 0 0 0 0 1 1 1", "done"))
        self.check(desk, ("moved c a 1 0 0 0 0 1 0 0 0 0 2 0 1", "done"))
        for line in ("shown b", "volume c", "cut b 2 0 0 -1"):
            with self.assertRaises(TooGreat):
                desk.tell(line)
        # What is too great to be shown is kept all the same.
        self.check(desk, ("names", "a b c"), ("moved d b 1 0 0 0 0 1 0 0 0 0 1 -1 1", "done"), ("shown d", text))

    def test_rows_of_one_name(self):
        for word in ("shown", "volume", "counts", "handles"):
            self.refuse(full(), f"{word} nope", NoName)
            for rest in ("", " ", " box tetra", "  box", " box ", " Box", " 1"):
                self.refuse(full(), word + rest, NoRow)

    def test_questions_change_nothing(self):
        desk = full()
        self.check(desk, ("drop tetra", "done"), ("undo", "done"))
        before = state(desk)
        for line in (
            "names", "shown box", "volume box", "place box 0 0 0", "cut box 1 0 0 -1", "counts box", "handles box", "lies box tetra",
        ):
            first = desk.tell(line)
            self.check(desk, (line, first))
            self.assertEqual(state(desk), before)
        # The deed that was taken back can still be done again.
        self.check(desk, ("again", "done"), ("names", "box empty"))


class Undo(Case):
    def test_back_and_again(self):
        desk = Desk()
        states = [state(desk)]
        for line in (
            f"put a {BOX_TEXT}", f"put b {CUBE_TEXT}", "joined c a b", "common a a b", "less b c a", "either d a b", "part d d 1 1 1 -7",
            "moved a a -1 0 0 3 0 1 0 0 0 0 1 0 2", "drop c", "put a none", "drop a",
        ):
            self.check(desk, (line, "done"))
            states.append(state(desk))
        for expected in states[-2::-1]:
            self.check(desk, ("undo", "done"))
            self.assertEqual(state(desk), expected)
        self.refuse(desk, "undo", NoUndo)
        for expected in states[1:]:
            self.check(desk, ("again", "done"))
            self.assertEqual(state(desk), expected)
        self.refuse(desk, "again", NoAgain)
        for n in range(3):
            self.check(desk, ("undo", "done"))
        self.check(desk, ("again", "done"))
        self.assertEqual(state(desk), states[-3])
        self.check(desk, ("undo", "done"), ("undo", "done"))
        self.assertEqual(state(desk), states[-5])

    def test_a_new_desk(self):
        desk = Desk()
        self.refuse(desk, "undo", NoUndo)
        self.refuse(desk, "again", NoAgain)
        self.check(desk, ("put a none", "done"))
        self.refuse(desk, "again", NoAgain)
        self.check(desk, ("undo", "done"))
        self.refuse(desk, "undo", NoUndo)

    def test_a_deed_behind_undo_leaves_nothing_for_again(self):
        desk = full()
        self.check(desk, ("undo", "done"), ("undo", "done"), ("names", "box"), ("put new none", "done"))
        self.refuse(desk, "again", NoAgain)
        self.check(desk, ("undo", "done"), ("names", "box"), ("again", "done"), ("names", "box new"))
        self.refuse(desk, "again", NoAgain)
        self.check(desk, ("undo", "done"), ("undo", "done"), ("names", "none"))
        self.refuse(desk, "undo", NoUndo)

    def test_deeds_that_change_nothing_count(self):
        desk = desk_with(a=BOX_BODY)
        for line in (f"put a {BOX_TEXT}", "joined a a a", f"moved a a {STAY}", "part a a 1 0 0 9", "common a a a"):
            self.check(desk, ("undo", "done"), ("again", "done"), (line, "done"))
            self.refuse(desk, "again", NoAgain)
            self.check(desk, ("undo", "done"), ("shown a", BOX_TEXT), ("again", "done"), ("undo", "done"))
        # Only the first deed is left.
        self.check(desk, ("undo", "done"), ("names", "none"))
        self.refuse(desk, "undo", NoUndo)

    def test_refused_lines_do_not_count(self):
        desk = full()
        self.check(desk, ("drop tetra", "done"), ("drop empty", "done"), ("undo", "done"))
        for line, kind in (
            ("put a x", NoText), (f"put a {BENT}", NotFlat), (f"put a {TRIANGLE}", NotClosed), ("joined a box nope", NoName),
            ("part a box 0 0 0 1", NoPlane), ("moved a box 0 0 0 0 0 0 0 0 0 0 0 0 1", FlatMove), ("drop nope", NoName),
            ("place box x", NoText), ("nothing", NoRow), ("", NoRow), ("undo ", NoRow), ("again again", NoRow),
        ):
            self.refuse(desk, line, kind)
        self.check(desk, ("again", "done"), ("names", "box"))
        self.refuse(desk, "again", NoAgain)
        self.check(desk, ("undo", "done"), ("undo", "done"), ("names", "box empty tetra"))

    def test_refused_undo_and_again_change_nothing(self):
        desk = desk_with(a=BOX_BODY, b=())
        self.refuse(desk, "again", NoAgain)
        self.check(desk, ("undo", "done"), ("undo", "done"))
        self.refuse(desk, "undo", NoUndo)
        self.check(desk, ("again", "done"), ("again", "done"), ("names", "a b"))


class Rows(Case):
    def test_lines_that_are_none(self):
        for line in (
            "", " ", "  ", "x", "names box", "names ", " names", "Names", "NAMES", "names\n", "undo box", "undo ", " undo", "Undo",
            "undone", "again ", "again 1", "shut", "help", "quit", "show box", "put", "none", "box", "joined", "shown box\n", "shown\tbox",
            "names names", "undo undo", "|", "0", "1 0 0 0", "done", "yes",
        ):
            self.refuse(full(), line, NoRow)

    def test_great_letters(self):
        for line in (
            "PUT a none", "JOINED a box tetra", "Common a box tetra", "LESS a box tetra", "Either a box tetra", "PART a box 1 0 0 0",
            f"MOVED a box {STAY}", "DROP box", "SHOWN box", "VOLUME box", "PLACE box 0 0 0", "CUT box 1 0 0 0", "COUNTS box",
            "HANDLES box", "LIES box tetra", "AGAIN",
        ):
            self.refuse(full(), line, NoRow)

    def test_no_row_ahead_of_no_name(self):
        for line in (
            "joined a nope", "common a nope nope nope", "less A nope nope", "either a nope 1", "part a nope 1 0 0", "part a nope 0 0 0 x",
            f"moved a nope {STAY} 1", "drop nope nope", "shown nope ", "volume  nope", "place nope", "cut nope 0 0 0", "counts nope nope",
            "handles nope nope", "lies nope", "lies nope nope nope", "lies nope Box",
        ):
            self.refuse(full(), line, NoRow)

    def test_no_name_ahead_of_what_is_refused(self):
        for line in (
            "part a nope 0 0 0 0", "moved a nope 0 0 0 0 0 0 0 0 0 0 0 0 0", "place nope x", "place nope ", "cut nope 0 0 0 0",
            "handles nope", "volume nope", "shown nope",
        ):
            self.refuse(full(), line, NoName)

    def test_two_desks_side_by_side(self):
        one, other = Desk(), Desk()
        self.check(one, (f"put a {BOX_TEXT}", "done"))
        self.check(other, ("names", "none"))
        self.refuse(other, "undo", NoUndo)
        self.check(other, (f"put a {CUBE_TEXT}", "done"), ("put b none", "done"))
        self.check(one, ("shown a", BOX_TEXT), ("names", "a"), ("undo", "done"), ("names", "none"))
        self.refuse(other, "again", NoAgain)
        self.check(other, ("names", "a b"), ("shown a", CUBE_TEXT))
        self.check(one, ("again", "done"), ("shown a", BOX_TEXT))

    def test_the_same_lines_give_the_same_answers(self):
        lines = (
            f"put a {BOX_TEXT}", f"put b {TETRA_TEXT}", "either c a b", "shown c", "volume c", "counts c", "undo", "names", "again",
            "cut c 1 1 1 -2", "place c 1/2 1/2 1/2", "lies b a", "drop b", "names",
        )
        first = [desk.tell(line) for desk in [Desk()] for line in lines]
        self.assertEqual([desk.tell(line) for desk in [Desk()] for line in lines], first)


class Long(Case):
    def test_many_deeds(self):
        # What comes of many lines is what the functions make of the bodies.
        chance = random.Random(201)
        desk, kept, past = Desk(), {}, []
        for k in range(60):
            name, one, other = (chance.choice("abc") for n in range(3))
            past.append(dict(kept))
            if len(kept) < 3 or k % 9 == 0:
                body = body_of(PLAIN.heap(some_solid(chance)))
                line, kept[name] = f"put {name} {shown(body)}", body
            elif k % 4 == 0:
                plane = some_plane(chance, PLAIN)
                line, kept[name] = f"part {name} {one} {' '.join(map(str, plane))}", part(kept[one], plane)
            elif k % 11 == 0:
                line = f"drop {name}"
                del kept[name]
            else:
                word = chance.choice(sorted(WORDS))
                line, kept[name] = f"{word} {name} {one} {other}", WORDS[word](kept[one], kept[other])
            self.check(desk, (line, "done"))
            self.assertEqual(state(desk), {name: shown(body) for name, body in kept.items()})
        for expected in past[::-1]:
            self.check(desk, ("undo", "done"))
            self.assertEqual(state(desk), {name: shown(body) for name, body in expected.items()})


if __name__ == "__main__":
    unittest.main()
