"""What holds throughout: [2] and [3]. Answers are built of whole numbers, and hang on the arguments alone."""

import unittest

from solidyard.lowest import divided, divisor, fraction, minus, plus, ranked, times
from solidyard.planes import height, over, plane, plane_through
from solidyard.points import amid, point, turn
from tests.helper import GREAT, HUGE, is_plain

P, Q, R, S = (1, 2, 3, 4), (0, 5, 1, 2), (-7, 0, 2, 3), (HUGE, 1, 0, GREAT)
QUESTIONS = (
    (divisor, (12, -18)), (divisor, (0, 0)), (divisor, (1, 0)),
    (fraction, (6, -4)), (fraction, (0, -1)), (fraction, (5, 5)),
    (plus, ((1, 2), (1, 2))), (minus, ((1, 2), (1, 2))), (times, ((1, 2), (2, 1))), (divided, ((1, 2), (1, 2))),
    (ranked, ((1, 2), (1, 2))), (ranked, ((1, 2), (1, 3))), (ranked, ((1, 3), (1, 2))),
    (point, (2, 4, 6, -8)), (point, (0, 0, 0, -1)), (point, (1, 0, 1, 1)), (amid, (P, P)), (amid, (P, Q)),
    (turn, (P, Q, R, S)), (turn, (Q, P, R, S)), (turn, (P, P, Q, R)),
    (plane, (0, 0, -2, 0)), (plane, (1, 0, 0, 1)), (over, ((0, 0, -1, 1),)),
    (height, ((1, 0, 0, 0), P)), (height, ((0, 0, 1, 0), (1, 1, 0, 1))),
    (plane_through, (P, Q, R)), (plane_through, (Q, P, S)),
)
NUMBERS = (int, tuple)


def parts(answer):
    """All that an answer is built of, itself included."""
    found = [answer]
    if type(answer) is tuple:
        for part in answer:
            found.extend(parts(part))
    return found


class Built(unittest.TestCase):
    def test_of_whole_numbers_and_tuples(self):
        for asked, arguments in QUESTIONS:
            answer = asked(*arguments)
            self.assertTrue(is_plain(answer), (asked, arguments))
            self.assertTrue(all(type(part) in NUMBERS for part in parts(answer)), (asked, arguments))

    def test_the_same_when_asked_again(self):
        first = [asked(*arguments) for asked, arguments in QUESTIONS]
        backwards = [asked(*arguments) for asked, arguments in QUESTIONS[::-1]]
        again = [asked(*arguments) for asked, arguments in QUESTIONS]
        self.assertEqual(first, backwards[::-1])
        self.assertEqual(first, again)

    def test_each_question_twice_over(self):
        for asked, arguments in QUESTIONS:
            self.assertEqual(asked(*arguments), asked(*arguments), (asked, arguments))


if __name__ == "__main__":
    unittest.main()
