"""The refusals: solidyard/errors.py of the interface."""

import unittest

from solidyard import errors

WITH_TEXT = (
    "BottomNought", "LastNought", "NoPlane", "NoLine", "OffLine", "OffPlane", "OtherPlane",
    "NoWay", "OnWall", "MeetsEdge", "Pinched", "FlatMove", "NoText", "TooGreat", "NoRow",
    "NoName", "NoUndo", "NoAgain",
)
GAP = ((0, 0, 0, 1), (1, 2, 3, 4))


class Family(unittest.TestCase):
    def test_yard_error_stands_under_value_error(self):
        self.assertEqual(errors.YardError.__bases__, (ValueError,))

    def test_each_other_class_stands_straight_under_it(self):
        for name in WITH_TEXT + ("NotFlat", "NotClosed"):
            with self.subTest(name):
                self.assertEqual(getattr(errors, name).__bases__, (errors.YardError,))
                self.assertEqual(getattr(errors, name).__name__, name)

    def test_none_stands_under_another_one(self):
        kinds = [getattr(errors, name) for name in WITH_TEXT + ("NotFlat", "NotClosed")]
        for one in kinds:
            for other in kinds:
                self.assertEqual(issubclass(one, other), one is other, (one, other))

    def test_no_further_class(self):
        found = {name for name, kind in vars(errors).items() if isinstance(kind, type)}
        self.assertEqual(found, set(WITH_TEXT) | {"YardError", "NotFlat", "NotClosed"})


class Made(unittest.TestCase):
    def test_with_a_text(self):
        for name in WITH_TEXT + ("YardError",):
            with self.subTest(name):
                kind = getattr(errors, name)
                with self.assertRaises(errors.YardError) as caught:
                    raise kind("some words")
                self.assertIs(type(caught.exception), kind)
                self.assertEqual(str(caught.exception), "some words")

    def test_not_flat_holds_its_place(self):
        for at in (0, 1, 7, 199):
            refusal = errors.NotFlat(at)
            self.assertEqual(refusal.at, at)
            self.assertIs(type(refusal.at), int)
            self.assertIsInstance(str(refusal), str)

    def test_not_closed_holds_its_gap_as_handed_in(self):
        for gap in (GAP, GAP[::-1]):
            refusal = errors.NotClosed(gap)
            self.assertIs(refusal.gap, gap)
            self.assertIsInstance(str(refusal), str)

    def test_a_gap_of_great_numbers_can_be_shown(self):
        gap = ((0, 0, 0, 1), (10 ** 6000, 0, 0, 1))
        refusal = errors.NotClosed(gap)
        self.assertIs(refusal.gap, gap)
        self.assertIsInstance(str(refusal), str)

    def test_two_refusals_keep_their_own_fields(self):
        first, second = errors.NotFlat(1), errors.NotFlat(2)
        self.assertEqual((first.at, second.at), (1, 2))
        one, other = errors.NotClosed(GAP), errors.NotClosed(GAP[::-1])
        self.assertEqual((one.gap, other.gap), (GAP, GAP[::-1]))

    def test_fields_can_be_read_off_a_caught_one(self):
        with self.assertRaises(errors.YardError) as caught:
            raise errors.NotFlat(5)
        self.assertEqual(caught.exception.at, 5)
        with self.assertRaises(ValueError) as caught:
            raise errors.NotClosed(GAP)
        self.assertEqual(caught.exception.gap, GAP)


if __name__ == "__main__":
    unittest.main()
