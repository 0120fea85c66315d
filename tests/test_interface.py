import contextlib
import inspect
import io
import unittest

from lastcoins import shares
from tests.helper import MOST, within_seconds

ARGUMENTS = {
    "down": ["pot", "weights"],
    "greatest": ["pot", "weights"],
    "divisor": ["rule", "pot", "weights"],
    "bounded": ["rule", "pot", "weights", "lows", "highs"],
    "running": ["rule", "weights", "pots"],
    "tree": ["rule", "pot", "weights", "sizes"],
    "fair": ["rule", "weights", "coins"],
    "quota": ["pot", "i", "weights"],
    "spread": ["pot", "weights", "coins"],
    "next_of": ["rule", "weights", "coins"],
    "last": ["rule", "weights", "coins"],
    "moves": ["rule", "pot", "other", "weights"],
    "level": ["pot", "caps"],
}

# What is handed in under each name, each with each: ordinary, at the edges, and refused.
RULES = (0, 1, 2, 3, 4)
POTS = (0, 7, MOST, -1)
HOLDERS = (0, 2, 59, -1, 60)
WEIGHTS = ([3, 2, 1], [0, 5, 5], [MOST, 1, 0], [7], [1] * 60, [], [1] * 61, [0, 0, 0], [3, -1, 1])
OTHER_ROWS = {
    "lows": ([1, 0, 1], [0, 0, 0], [0], [0] * 60),
    "highs": ([4, 5, 6], [MOST, MOST, MOST], [MOST], [MOST] * 60),
    "pots": ([5, 0, 2], [7], [MOST, 1], []),
    "sizes": ([2, 0, 1], [1], [30, 0, 30], [1, 1, 1], [0]),
    "coins": ([4, 2, 1], [0, 0, 0], [0, 1, 0], [MOST, 1, 0], [9], [1] * 60, [-1]),
    "caps": ([3, 0, 4], [0, 0], [MOST] * 60, [9], [MOST, 2], [], [3, -1]),
}


class Untouchable(list):
    """A list that fails on any change, even one that is taken back later."""

    def refuse(self, *given, **named):
        raise AssertionError("a list that was handed in was changed")

    append = clear = extend = insert = pop = remove = reverse = sort = refuse
    __setitem__ = __delitem__ = __iadd__ = __imul__ = refuse


def choices(name):
    if name == "rule":
        return RULES
    if name in ("pot", "other"):
        return POTS
    if name == "i":
        return HOLDERS
    if name == "weights":
        return WEIGHTS
    return OTHER_ROWS[name]


def all_given(names):
    """Every way to choose a value for each of the names."""
    found = [[]]
    for name in names:
        found = [given + [value] for given in found for value in choices(name)]
    return found


ASKED = [(name, given) for name, names in ARGUMENTS.items() for given in all_given(names)]


def ask(name, given, make=list):
    """A call's answer, each row handed in as a copy of its own."""
    with within_seconds(5):
        return getattr(shares, name)(*[make(value) if isinstance(value, list) else value for value in given])


class InterfaceTest(unittest.TestCase):
    @classmethod
    def setUpClass(cls):
        cls.answers = [ask(name, given) for name, given in ASKED]

    def test_names_and_arguments(self):
        for name, names in ARGUMENTS.items():
            parameters = inspect.signature(getattr(shares, name)).parameters.values()
            self.assertEqual([parameter.name for parameter in parameters], names)
            self.assertTrue(all(parameter.default is parameter.empty for parameter in parameters), name)

    def test_arguments_by_name(self):
        for (name, given), answer in zip(ASKED, self.answers):
            self.assertEqual(getattr(shares, name)(**dict(zip(ARGUMENTS[name], given))), answer)

    def test_each_call_is_taken_and_refused(self):
        for name in ARGUMENTS:
            values = [answer[0] for (asked, given), answer in zip(ASKED, self.answers) if asked == name]
            self.assertGreaterEqual(max(values), 0, name)
            self.assertEqual(min(values), -12, name)

    def test_answers_are_lists_of_whole_numbers(self):
        for (name, given), answer in zip(ASKED, self.answers):
            self.assertIs(type(answer), list)
            self.assertGreater(len(answer), 0)
            for number in answer:
                self.assertIs(type(number), int, (name, given))

    def test_a_refusal_is_its_number_alone(self):
        for (name, given), answer in zip(ASKED, self.answers):
            if answer[0] < 0:
                self.assertEqual(len(answer), 1, (name, given))

    def test_what_is_handed_in_is_not_changed(self):
        for (name, given), answer in zip(ASKED, self.answers):
            made = []

            def make(row):
                made.append((Untouchable(row), row))
                return made[-1][0]

            self.assertEqual(ask(name, given, make), answer)
            for handed, row in made:
                self.assertEqual(list(handed), row)

    def test_a_second_call_and_another_order_give_the_same(self):
        again = [ask(name, given) for name, given in reversed(ASKED)]
        self.assertEqual(again[::-1], self.answers)
        for (name, given), answer in zip(ASKED, self.answers):
            self.assertEqual([ask(name, given), ask(name, given)], [answer, answer])

    def test_an_answer_is_the_callers_own(self):
        for (name, given), answer in zip(ASKED, self.answers):
            rows = [list(value) for value in given if isinstance(value, list)]
            got = getattr(shares, name)(*given)
            got.append(99)
            got[0] = 99
            self.assertEqual([value for value in given if isinstance(value, list)], rows)
            self.assertEqual(getattr(shares, name)(*given), answer)

    def test_prints_nothing(self):
        out = io.StringIO()
        err = io.StringIO()
        with contextlib.redirect_stdout(out), contextlib.redirect_stderr(err):
            for name, given in ASKED:
                ask(name, given)
        self.assertEqual((out.getvalue(), err.getvalue()), ("", ""))
