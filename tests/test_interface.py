import contextlib
import inspect
import io
import unittest

from lastcoins import shares
from tests.helper import MOST, within_seconds


class Untouchable(list):
    """A list that fails on any change, even one that is taken back later."""

    def refuse(self, *given, **named):
        raise AssertionError("a list that was handed in was changed")

    append = clear = extend = insert = pop = remove = reverse = sort = refuse
    __setitem__ = __delitem__ = __iadd__ = __imul__ = refuse


ROWS = ([1, 2, 3], [0, 5, 0, 5], [MOST, 1], [7], [1] * 60, [], [1] * 61, [0, 0], [3, -1])


def answers(row):
    """Each call's answer for the row, by ordinary, great and refused pots and rules."""
    found = []
    for pot in (0, 7, MOST, -1):
        with within_seconds(5):
            found.append(shares.down(pot, row))
            found.append(shares.greatest(pot, row))
            found.extend([shares.divisor(rule, pot, row) for rule in (0, 1, 2, 3)])
    return found


class InterfaceTest(unittest.TestCase):
    def test_names_and_arguments(self):
        self.assertEqual(list(inspect.signature(shares.down).parameters), ["pot", "weights"])
        self.assertEqual(list(inspect.signature(shares.greatest).parameters), ["pot", "weights"])
        self.assertEqual(list(inspect.signature(shares.divisor).parameters), ["rule", "pot", "weights"])

    def test_arguments_by_name(self):
        self.assertEqual(shares.down(pot=7, weights=[1, 1]), [1, 3, 3])
        self.assertEqual(shares.greatest(pot=7, weights=[1, 1]), [1, 4, 3])
        self.assertEqual(shares.divisor(rule=0, pot=7, weights=[1, 1]), [0, 4, 3])

    def test_answers_are_lists_of_whole_numbers(self):
        for row in ROWS:
            for answer in answers(row):
                self.assertIs(type(answer), list)
                for number in answer:
                    self.assertIs(type(number), int)

    def test_what_is_handed_in_is_not_changed(self):
        for row in ROWS:
            given = Untouchable(row)
            self.assertEqual(answers(given), answers(list(row)))
            self.assertEqual(list(given), row)

    def test_a_second_call_gives_the_same(self):
        first = [answers(list(row)) for row in ROWS]
        again = [answers(list(row)) for row in reversed(ROWS)]
        self.assertEqual(first, again[::-1])

    def test_an_answer_is_the_callers_own(self):
        for call in (shares.down, shares.greatest, lambda pot, row: shares.divisor(1, pot, row)):
            for row in ([1, 2], [0]):
                weights = list(row)
                answer = call(5, weights)
                kept = list(answer)
                answer.append(99)
                answer[0] = 99
                self.assertEqual(weights, row)
                self.assertEqual(call(5, weights), kept)

    def test_prints_nothing(self):
        out = io.StringIO()
        err = io.StringIO()
        with contextlib.redirect_stdout(out), contextlib.redirect_stderr(err):
            for row in ROWS:
                answers(row)
        self.assertEqual((out.getvalue(), err.getvalue()), ("", ""))
