import unittest

from lastcoins.shares import divisor, greatest, running
from tests.helper import MOST, divisor_by_words, mixed_pots, rule_by_words, small_rows, within_seconds

RULES = (0, 1, 2, 3)


def rows_of(answer, pots):
    """The rows of an answer, taken apart by how many numbers stand ahead of each."""
    if len(pots) == 1:
        return [answer[1:]]
    rows = []
    rest = answer[1:]
    while rest:
        rows.append(rest[1:1 + rest[0]])
        rest = rest[1 + rest[0]:]
    return rows


def sums_of(rows):
    return [sum(column) for column in zip(*rows)]


class RunningTest(unittest.TestCase):
    def test_ordinary_inputs(self):
        self.assertEqual(running(0, [6, 3, 1], [4, 4, 2]), [10, 3, 3, 1, 0, 3, 3, 1, 0, 3, 0, 1, 1])
        self.assertEqual(running(1, [1, 1, 1], [2, 2]), [4, 3, 1, 1, 0, 3, 1, 0, 1])
        self.assertEqual(running(2, [9, 1], [1, 1, 3]), [5, 2, 1, 0, 2, 0, 1, 2, 3, 0])
        self.assertEqual(running(3, [1, 1, 1], [1, 1, 1]), [3, 3, 1, 0, 0, 3, 0, 1, 0, 3, 0, 0, 1])

    def test_one_pot_gives_its_row_alone(self):
        for weights in ([3, 2, 1], [0, 4], [7], [1] * 60):
            for rule in (0, 1, 2):
                self.assertEqual(running(rule, weights, [9]), [9] + divisor(rule, 9, weights)[1:])
            self.assertEqual(running(3, weights, [9]), [9] + greatest(9, weights)[1:])

    def test_two_pots_or_more_have_the_count_ahead_of_each_row(self):
        for rule in RULES:
            self.assertEqual(running(rule, [7], [2, 3]), [5, 1, 2, 1, 3])
            self.assertEqual(running(rule, [1, 1], [2, 2]), [4, 2, 1, 1, 2, 1, 1])
            for count in (2, 3, 60):
                answer = running(rule, [2, 0, 1, 5], [3] * count)
                self.assertEqual(len(answer), 1 + 5 * count)
                self.assertEqual(answer[1::5], [4] * count)

    def test_as_many_pots_as_holders_are_not_asked_for(self):
        for rule in RULES:
            self.assertEqual(running(rule, [1, 1, 1], [3, 6]), [9, 3, 1, 1, 1, 3, 2, 2, 2])
            self.assertEqual(running(rule, [5], [1, 2, 0]), [3, 1, 1, 1, 2, 1, 0])

    def test_pots_of_zero(self):
        for rule in RULES:
            self.assertEqual(running(rule, [1, 2], [0]), [0, 0, 0])
            self.assertEqual(running(rule, [1, 2], [0, 0]), [0, 2, 0, 0, 2, 0, 0])
            self.assertEqual(running(rule, [1, 1], [0, 2, 0, 4, 0]), [6, 2, 0, 0, 2, 1, 1, 2, 0, 0, 2, 2, 2, 2, 0, 0])

    def test_greatest_remainders_may_take_a_coin_back(self):
        # Of 10 coins the shares of 6, 6 and 2 are 4 2/7, 4 2/7 and 1 3/7; of 11 they are 4 5/7, 4 5/7 and 1 4/7.
        self.assertEqual(running(3, [6, 6, 2], [10, 1]), [11, 3, 4, 4, 2, 3, 1, 1, -1])
        self.assertEqual(running(3, [6, 6, 2], [10, 0, 1]), [11, 3, 4, 4, 2, 3, 0, 0, 0, 3, 1, 1, -1])

    def test_weights_of_zero_get_nothing(self):
        for rule in RULES:
            self.assertEqual(running(rule, [0, 1, 0], [4, 5]), [9, 3, 0, 4, 0, 3, 0, 5, 0])

    def test_small_pots_against_the_words(self):
        for weights in small_rows():
            if len(weights) == 3:
                for rule in RULES:
                    pots = [2, 0, 1, 3, 1]
                    have = [rule_by_words(rule, pot, weights) for pot in (0, 2, 2, 3, 6, 7)]
                    rows = [[late - early for early, late in zip(*pair)] for pair in zip(have, have[1:])]
                    answer = running(rule, weights, pots)
                    self.assertEqual(answer[0], 7)
                    self.assertEqual(rows_of(answer, pots), rows, (rule, weights))

    def test_all_together_is_what_one_pot_of_their_sum_gives(self):
        for weights, pots in mixed_pots(11, 40):
            whole = sum(pots)
            for rule in RULES:
                with within_seconds(5):
                    answer = running(rule, weights, pots)
                rows = rows_of(answer, pots)
                one = greatest(whole, weights) if rule == 3 else divisor(rule, whole, weights)
                self.assertEqual(answer[0], whole)
                self.assertEqual([len(row) for row in rows], [len(weights)] * len(pots))
                self.assertEqual([sum(row) for row in rows], pots)
                self.assertEqual(sums_of(rows), one[1:], (rule, weights, pots))

    def test_divisor_rules_never_take_a_coin_back(self):
        for weights, pots in mixed_pots(12, 20):
            for rule in (0, 1, 2):
                for row in rows_of(running(rule, weights, pots), pots):
                    self.assertGreaterEqual(min(row), 0)

    def test_one_coin_after_another_is_the_giving_itself(self):
        weights = [5, 0, 3, 1]
        for rule in (0, 1, 2):
            have = divisor_by_words(rule, 30, weights)
            rows = rows_of(running(rule, weights, [1] * 30), [1] * 30)
            for pot, row in enumerate(rows):
                self.assertEqual(row, [late - early for early, late in zip(have[pot], have[pot + 1])])

    def test_great_pots(self):
        for rule in RULES:
            with within_seconds(5):
                self.assertEqual(running(rule, [1], [MOST]), [MOST, MOST])
                self.assertEqual(running(rule, [1, 1], [MOST // 2, MOST // 2]),
                                 [MOST] + [2, MOST // 4, MOST // 4] * 2)
                self.assertEqual(running(rule, [3], [MOST] + [0] * 59), [MOST, 1, MOST] + [1, 0] * 59)
            pots = [MOST // 60] * 60
            with within_seconds(10):
                answer = running(rule, [10 ** (holder % 16) for holder in range(60)], pots)
            self.assertEqual([sum(row) for row in rows_of(answer, pots)], pots)
