import random
import unittest

from lastcoins.shares import divisor, greatest, moves
from tests.helper import MOST, mixed_inputs, rule_by_words, small_rows, within_seconds

RULES = (0, 1, 2, 3)


class MovesTest(unittest.TestCase):
    def test_ordinary_inputs(self):
        self.assertEqual(moves(0, 4, 8, [6, 3, 1]), [0, 3, 1, 0])
        self.assertEqual(moves(0, 8, 4, [6, 3, 1]), [2, -3, -1, 0])
        self.assertEqual(moves(1, 2, 4, [1, 1, 1]), [0, 1, 0, 1])
        self.assertEqual(moves(2, 5, 1, [9, 1]), [2, -3, -1])
        self.assertEqual(moves(3, 10, 11, [1, 1, 1]), [0, 0, 1, 0])
        self.assertEqual(moves(3, 11, 10, [1, 1, 1]), [1, 0, -1, 0])

    def test_equal_pots_move_nothing(self):
        for rule in RULES:
            for pot in (0, 1, 9, MOST):
                self.assertEqual(moves(rule, pot, pot, [6, 0, 3]), [0, 0, 0, 0])

    def test_from_nothing_and_to_nothing(self):
        for rule in RULES:
            self.assertEqual(moves(rule, 0, 6, [3, 0, 2, 1]), [0, 3, 0, 2, 1])
            self.assertEqual(moves(rule, 6, 0, [3, 0, 2, 1]), [3, -3, 0, -2, -1])

    def test_greatest_remainders_where_a_greater_pot_gives_fewer_coins(self):
        # Of 10 coins the shares of 6, 6 and 2 are 4 2/7, 4 2/7 and 1 3/7; of 11 they are 4 5/7, 4 5/7 and 1 4/7.
        self.assertEqual(moves(3, 10, 11, [6, 6, 2]), [1, 1, 1, -1])
        self.assertEqual(moves(3, 11, 10, [6, 6, 2]), [2, -1, -1, 1])
        for rule in (0, 1, 2):
            self.assertEqual(moves(rule, 10, 11, [6, 6, 2])[0], 0)

    def test_small_pots_against_the_words(self):
        for weights in small_rows():
            if len(weights) <= 3:
                for rule in RULES:
                    for pot, other in ((0, 1), (2, 7), (7, 2), (3, 4), (4, 3), (5, 5)):
                        first, second = [rule_by_words(rule, one, weights) for one in (pot, other)]
                        changes = [late - early for early, late in zip(first, second)]
                        expected = [sum(change < 0 for change in changes)] + changes
                        self.assertEqual(moves(rule, pot, other, weights), expected, (rule, pot, other, weights))

    def test_mixed_pots(self):
        source = random.Random(81)
        for pot, weights in mixed_inputs(82, 150):
            other = source.choice([0, min(pot + 1, MOST), max(pot - 1, 0), source.randint(0, MOST)])
            for rule in RULES:
                with within_seconds(5):
                    answer = moves(rule, pot, other, weights)
                if rule == 3:
                    first, second = greatest(pot, weights)[1:], greatest(other, weights)[1:]
                else:
                    first, second = divisor(rule, pot, weights)[1:], divisor(rule, other, weights)[1:]
                self.assertEqual(answer[1:], [late - early for early, late in zip(first, second)])
                self.assertEqual(answer[0], sum(late < early for early, late in zip(first, second)))
                self.assertEqual(sum(answer[1:]), other - pot)

    def test_divisor_rules_never_move_down_when_the_pot_grows(self):
        source = random.Random(83)
        for pot, weights in mixed_inputs(84, 100):
            for other in (min(pot + 1, MOST), source.randint(pot, MOST)):
                for rule in (0, 1, 2):
                    answer = moves(rule, pot, other, weights)
                    self.assertEqual(answer[0], 0, (rule, pot, other, weights))
                    self.assertGreaterEqual(min(answer[1:]), 0)

    def test_great_pots_and_sixty_holders(self):
        weights = [10 ** (holder % 16) for holder in range(60)]
        for rule in RULES:
            with within_seconds(5):
                self.assertEqual(moves(rule, 0, MOST, [MOST]), [0, MOST])
                self.assertEqual(moves(rule, MOST, 0, [MOST, 0]), [1, -MOST, 0])
                self.assertEqual(moves(rule, MOST, MOST - 1, [1, 1]), [1, 0, -1])
                answer = moves(rule, MOST, MOST // 3, weights)
            self.assertEqual(len(answer), 61)
            self.assertEqual(sum(answer[1:]), MOST // 3 - MOST)
