import random
import unittest

from lastcoins.shares import divisor
from tests.helper import MOST, divisor_by_words, is_by_rule, mixed_inputs, small_rows, within_seconds

RULES = (0, 1, 2)


class DivisorTest(unittest.TestCase):
    def check_by_words(self, most, weights):
        for rule in RULES:
            for pot, coins in divisor_by_words(rule, most, weights).items():
                self.assertEqual(divisor(rule, pot, weights), [0] + coins, (rule, pot, weights))

    def test_ordinary_inputs(self):
        weights = [100000, 80000, 30000, 20000]
        self.assertEqual(divisor(0, 8, weights), [0, 4, 3, 1, 0])
        self.assertEqual(divisor(1, 8, weights), [0, 3, 3, 1, 1])
        self.assertEqual(divisor(2, 8, weights), [0, 3, 3, 1, 1])
        self.assertEqual(divisor(0, 10, [60, 30, 10]), [0, 6, 3, 1])
        self.assertEqual(divisor(0, 5, [7, 1, 1]), [0, 5, 0, 0])
        self.assertEqual(divisor(1, 5, [7, 1, 1]), [0, 4, 1, 0])
        self.assertEqual(divisor(2, 5, [7, 1, 1]), [0, 3, 1, 1])

    def test_alike_weights_go_to_the_front(self):
        for rule in RULES:
            self.assertEqual(divisor(rule, 5, [4, 4, 4]), [0, 2, 2, 1])

    def test_alike_worths_of_unlike_weights_go_to_the_front(self):
        self.assertEqual(divisor(0, 2, [1, 2]), [0, 1, 1])
        self.assertEqual(divisor(0, 2, [2, 1]), [0, 2, 0])
        self.assertEqual(divisor(1, 2, [1, 3]), [0, 1, 1])
        self.assertEqual(divisor(1, 2, [3, 1]), [0, 2, 0])
        self.assertEqual(divisor(2, 4, [1, 2]), [0, 2, 2])
        self.assertEqual(divisor(2, 4, [2, 1]), [0, 3, 1])

    def test_first_coins_of_rule_two_go_from_the_front(self):
        self.assertEqual(divisor(2, 2, [1, 5, 9]), [0, 1, 1, 0])
        self.assertEqual(divisor(2, 2, [0, 1, 0, 5, MOST]), [0, 0, 1, 0, 1, 0])
        self.assertEqual(divisor(2, 3, [1, 5, 9]), [0, 1, 1, 1])
        self.assertEqual(divisor(2, 4, [1, 5, 9]), [0, 1, 1, 2])

    def test_weights_of_zero_get_nothing(self):
        for rule in RULES:
            self.assertEqual(divisor(rule, 6, [0, 1, 0, 1, 0]), [0, 0, 3, 0, 3, 0])
            self.assertEqual(divisor(rule, 9, [0, 0, 5]), [0, 0, 0, 9])
            self.assertEqual(divisor(rule, 9, [5, 0, 0]), [0, 9, 0, 0])

    def test_small_pots_against_the_words(self):
        for weights in small_rows():
            self.check_by_words(12, weights)

    def test_many_holders_against_the_words(self):
        source = random.Random(3)
        for count in (1, 7, 30, 59, 60):
            self.check_by_words(200, [source.randint(0, 9) for _ in range(count - 1)] + [1])
            self.check_by_words(200, [source.choice([0, 1, 2, MOST]) for _ in range(count - 1)] + [1])
        self.check_by_words(200, [1] * 60)

    def test_unlike_weights_against_the_words(self):
        for weights in ([1, MOST], [MOST, 1], [1, 10, 100, 1000], [MOST, MOST - 1], [MOST, 0, 1, MOST]):
            self.check_by_words(60, weights)

    def test_edges(self):
        with within_seconds(5):
            for rule in RULES:
                self.assertEqual(divisor(rule, 0, [3, 4]), [0, 0, 0])
                self.assertEqual(divisor(rule, 0, [3]), [0, 0])
                self.assertEqual(divisor(rule, MOST, [1]), [0, MOST])
                self.assertEqual(divisor(rule, MOST, [MOST]), [0, MOST])
                self.assertEqual(divisor(rule, MOST, [MOST] * 60), [0] + [16666666666667] * 40 + [16666666666666] * 20)
            # Of 1 and 10^15 the first coin of 1 is worth 1 / 2 by rule 0, as the coin 10^15 of the other.
            self.assertEqual(divisor(0, MOST, [1, MOST]), [0, 1, MOST - 1])
            self.assertEqual(divisor(0, MOST, [MOST, 1]), [0, MOST, 0])
            self.assertEqual(divisor(1, MOST, [MOST, 1]), [0, MOST - 1, 1])
            self.assertEqual(divisor(2, MOST, [MOST, 1]), [0, MOST - 1, 1])
            self.assertEqual(divisor(2, MOST, [1] * 59 + [MOST]), [0] + [1] * 59 + [MOST - 59])

    def test_great_pots_give_the_whole_pot_by_the_words(self):
        for pot, weights in mixed_inputs(4, 1000):
            for rule in RULES:
                with within_seconds(5):
                    answer = divisor(rule, pot, weights)
                self.assertEqual(answer[0], 0)
                self.assertEqual(len(answer), 1 + len(weights))
                self.assertEqual(sum(answer[1:]), pot)
                self.assertTrue(is_by_rule(rule, pot, weights, answer[1:]), (rule, pot, weights))

    def test_alike_weights_in_great_pots_go_to_the_front(self):
        for rule in RULES:
            for pot in range(MOST - 60, MOST + 1):
                each, more = divmod(pot, 7)
                with within_seconds(5):
                    answer = divisor(rule, pot, [3] * 7)
                self.assertEqual(answer, [0] + [each + 1] * more + [each] * (7 - more))
