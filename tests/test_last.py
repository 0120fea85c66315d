import random
import unittest
from itertools import product

from lastcoins.shares import divisor, last
from tests.helper import MOST, divisor_by_words, mixed_inputs, place_of_coin, small_rows, within_seconds

RULES = (0, 1, 2)


class LastTest(unittest.TestCase):
    def check_by_words(self, rule, weights, coins):
        having = [holder for holder, has in enumerate(coins) if has > 0]
        expected = [-7]
        if having:
            # min gives the first of alike ones: from behind, the holder further behind.
            expected = [min(reversed(having), key=lambda one: place_of_coin(rule, weights[one], coins[one]))]
        self.assertEqual(last(rule, weights, coins), expected, (rule, weights, coins))

    def test_ordinary_inputs(self):
        # By rule 0 the last coins are worth 6 / 8, 3 / 4 and 1 / 2.
        self.assertEqual(last(0, [6, 3, 1], [4, 2, 1]), [2])
        # By rule 1 they are worth 6 / 7, 3 / 5 and 1 / 1.
        self.assertEqual(last(1, [6, 3, 1], [4, 3, 1]), [1])
        # By rule 2 they are worth 6 / 8, 3 / 2 and 1 / 0.
        self.assertEqual(last(2, [6, 3, 1], [5, 2, 1]), [0])
        self.assertEqual(last(0, [5], [3]), [0])

    def test_alike_worths_go_to_the_one_behind(self):
        for rule in RULES:
            self.assertEqual(last(rule, [4, 4, 4], [2, 2, 2]), [2])
            self.assertEqual(last(rule, [4, 4, 4], [2, 2, 1]), [1])
            self.assertEqual(last(rule, [4, 4, 4], [3, 2, 2]), [0])
        # Alike worths of unlike weights.
        self.assertEqual(last(0, [1, 2], [1, 2]), [1])
        self.assertEqual(last(0, [2, 1], [2, 1]), [1])
        self.assertEqual(last(1, [3, 1], [2, 1]), [1])
        self.assertEqual(last(2, [2, 1], [3, 2]), [1])

    def test_holders_without_a_coin_are_passed_over(self):
        for rule in RULES:
            self.assertEqual(last(rule, [9, 1], [1, 0]), [0])
            self.assertEqual(last(rule, [1, 9], [0, 1]), [1])
            self.assertEqual(last(rule, [0, 5, 0], [0, 2, 0]), [1])
            self.assertEqual(last(rule, [5, 1, 9], [2, 0, 2]), [0])

    def test_a_weight_of_zero_with_a_coin_is_worth_less_than_another(self):
        for rule in RULES:
            for has in (1, 2, 7, MOST):
                self.assertEqual(last(rule, [0, 1], [has, 1]), [0])
                self.assertEqual(last(rule, [0, 1], [has, MOST]), [0])
                self.assertEqual(last(rule, [1, 0], [MOST, has]), [1])
                self.assertEqual(last(rule, [1, 0, 9], [0, has, 4]), [1])

    def test_several_weights_of_zero_with_a_coin(self):
        for rule in RULES:
            for one, other in product((1, 2, 9), repeat=2):
                self.assertEqual(last(rule, [0, 0, 1], [one, other, 1]), [1])
                self.assertEqual(last(rule, [0, 3, 0], [one, 5, other]), [2])
                self.assertEqual(last(rule, [0, 3, 0, 0], [one, 5, other, 0]), [2])

    def test_rule_two_with_first_coins(self):
        self.assertEqual(last(2, [1, 5, 9], [1, 1, 1]), [2])
        self.assertEqual(last(2, [1, 5, 9], [1, 1, 0]), [1])
        self.assertEqual(last(2, [1, 5, MOST], [1, 1, 2]), [2])
        self.assertEqual(last(2, [MOST, 5, 1], [2, 1, 1]), [0])
        self.assertEqual(last(2, [0, 5], [1, 1]), [0])
        self.assertEqual(last(2, [0, 5], [1, 3]), [0])

    def test_nobody_with_a_coin(self):
        for rule in RULES:
            self.assertEqual(last(rule, [1, 2], [0, 0]), [-7])
            self.assertEqual(last(rule, [5], [0]), [-7])
            self.assertEqual(last(rule, [1] * 60, [0] * 60), [-7])

    def test_great_coins_and_great_weights(self):
        for rule in RULES:
            self.assertEqual(last(rule, [MOST] * 60, [MOST] * 60), [59])
            self.assertEqual(last(rule, [MOST] * 60, [MOST] + [MOST - 1] * 59), [0])
            self.assertEqual(last(rule, [MOST, MOST - 1], [MOST, MOST]), [1])
        # By rule 0 both are worth 1 / 2; by the others the greater weight's coin is worth less, by a hair.
        self.assertEqual(last(0, [MOST, MOST - 1], [MOST, MOST - 1]), [1])
        self.assertEqual(last(0, [MOST - 1, MOST], [MOST - 1, MOST]), [1])
        self.assertEqual(last(1, [MOST, MOST - 1], [MOST, MOST - 1]), [0])
        self.assertEqual(last(2, [MOST, MOST - 1], [MOST, MOST - 1]), [0])

    def test_the_holder_who_got_the_last_coin_of_the_giving(self):
        for weights in small_rows():
            if len(weights) <= 3:
                for rule in RULES:
                    given = divisor_by_words(rule, 9, weights)
                    for pot in range(1, 10):
                        before = list(given[pot])
                        before[last(rule, weights, given[pot])[0]] -= 1
                        self.assertEqual(before, given[pot - 1], (rule, weights, pot))

    def test_the_holder_who_got_the_last_coin_of_great_pots(self):
        for pot, weights in mixed_inputs(71, 100):
            for rule in RULES:
                if pot > 0:
                    before = divisor(rule, pot, weights)[1:]
                    before[last(rule, weights, before)[0]] -= 1
                    self.assertEqual(before, divisor(rule, pot - 1, weights)[1:])

    def test_small_coins_against_the_words(self):
        for weights in small_rows():
            if len(weights) <= 3:
                for rule in RULES:
                    for coins in product(range(4), repeat=len(weights)):
                        self.check_by_words(rule, weights, list(coins))

    def test_mixed_inputs_against_the_words(self):
        source = random.Random(72)
        for pot, weights in mixed_inputs(73, 500):
            coins = [source.choice([0, 0, 1, 2, pot, MOST, source.randint(0, MOST)]) for _ in weights]
            for rule in RULES:
                with within_seconds(5):
                    self.check_by_words(rule, weights, coins)
