import random
import unittest
from itertools import product

from lastcoins.shares import divisor, next_of
from tests.helper import MOST, divisor_by_words, mixed_inputs, place_of_coin, small_rows, within_seconds

RULES = (0, 1, 2)


class NextOfTest(unittest.TestCase):
    def check_by_words(self, rule, weights, coins):
        # max gives the first of alike ones: the holder further in front.
        holder = max(range(len(weights)), key=lambda one: place_of_coin(rule, weights[one], coins[one] + 1))
        self.assertEqual(next_of(rule, weights, coins), [holder], (rule, weights, coins))

    def test_ordinary_inputs(self):
        # By rule 0 the next coins are worth 6 / 10, 3 / 4 and 1 / 2.
        self.assertEqual(next_of(0, [6, 3, 1], [4, 1, 0]), [1])
        # By rule 1 they are worth 6 / 7, 3 / 5 and 1 / 1.
        self.assertEqual(next_of(1, [6, 3, 1], [3, 2, 0]), [2])
        # By rule 2 they are worth 6 / 6, 3 / 2 and 1 / 2.
        self.assertEqual(next_of(2, [6, 3, 1], [3, 1, 1]), [1])
        self.assertEqual(next_of(0, [7, 3, 1], [0, 0, 0]), [0])
        self.assertEqual(next_of(0, [5], [3]), [0])

    def test_alike_worths_go_to_the_front(self):
        for rule in RULES:
            self.assertEqual(next_of(rule, [4, 4, 4], [1, 1, 1]), [0])
            self.assertEqual(next_of(rule, [4, 4, 4], [2, 1, 1]), [1])
            self.assertEqual(next_of(rule, [4, 4, 4], [2, 2, 1]), [2])
        # Alike worths of unlike weights.
        self.assertEqual(next_of(0, [1, 2], [0, 1]), [0])
        self.assertEqual(next_of(0, [2, 1], [1, 0]), [0])
        self.assertEqual(next_of(1, [1, 3], [0, 1]), [0])
        self.assertEqual(next_of(2, [1, 2], [1, 2]), [0])

    def test_weights_of_zero_come_behind_every_other(self):
        for rule in RULES:
            self.assertEqual(next_of(rule, [0, 1], [0, 5]), [1])
            self.assertEqual(next_of(rule, [0, 1], [0, MOST]), [1])
            self.assertEqual(next_of(rule, [0, 0, 0, 1, 0], [0, 3, 0, 9, 0]), [3])
            self.assertEqual(next_of(rule, [1, 0], [7, 0]), [0])

    def test_rule_two_where_some_have_no_coin_yet(self):
        self.assertEqual(next_of(2, [1, 5, 9], [0, 0, 0]), [0])
        self.assertEqual(next_of(2, [1, 5, 9], [1, 0, 0]), [1])
        self.assertEqual(next_of(2, [MOST, 1, 9], [1, 0, 1]), [1])
        self.assertEqual(next_of(2, [MOST, 0, 1], [1, 0, 0]), [2])
        self.assertEqual(next_of(2, [1, 5, 9], [1, 1, 1]), [2])
        self.assertEqual(next_of(2, [0, 5, 9], [0, 1, 1]), [2])

    def test_great_coins_and_great_weights(self):
        for rule in RULES:
            self.assertEqual(next_of(rule, [MOST] * 60, [MOST] * 60), [0])
            self.assertEqual(next_of(rule, [MOST] * 60, [MOST] * 59 + [MOST - 1]), [59])
            self.assertEqual(next_of(rule, [MOST - 1, MOST], [MOST, MOST]), [1])
        # By rule 0 both are worth 1 / 2; by the others the less weight's coin is worth more, by a hair.
        self.assertEqual(next_of(0, [MOST - 1, MOST], [MOST - 2, MOST - 1]), [0])
        self.assertEqual(next_of(0, [MOST, MOST - 1], [MOST - 1, MOST - 2]), [0])
        self.assertEqual(next_of(1, [MOST, MOST - 1], [MOST - 1, MOST - 2]), [1])
        self.assertEqual(next_of(2, [MOST, MOST - 1], [MOST - 1, MOST - 2]), [1])
        self.assertEqual(next_of(1, [MOST - 1, MOST], [MOST - 1, MOST]), [1])
        self.assertEqual(next_of(2, [MOST, MOST - 1], [MOST, MOST - 1]), [0])

    def test_the_holder_who_gets_the_next_coin_of_the_giving(self):
        for weights in small_rows():
            if len(weights) <= 3:
                for rule in RULES:
                    given = divisor_by_words(rule, 9, weights)
                    for pot in range(9):
                        after = list(given[pot])
                        after[next_of(rule, weights, given[pot])[0]] += 1
                        self.assertEqual(after, given[pot + 1], (rule, weights, pot))

    def test_the_holder_who_gets_the_next_coin_of_great_pots(self):
        for pot, weights in mixed_inputs(61, 100):
            for rule in RULES:
                if pot < MOST:
                    after = divisor(rule, pot, weights)[1:]
                    after[next_of(rule, weights, after)[0]] += 1
                    self.assertEqual(after, divisor(rule, pot + 1, weights)[1:])

    def test_small_coins_against_the_words(self):
        for weights in small_rows():
            if len(weights) <= 3:
                for rule in RULES:
                    for coins in product(range(4), repeat=len(weights)):
                        self.check_by_words(rule, weights, list(coins))

    def test_mixed_inputs_against_the_words(self):
        source = random.Random(62)
        for pot, weights in mixed_inputs(63, 500):
            coins = [source.choice([0, 0, 1, 2, pot, MOST, source.randint(0, MOST)]) for _ in weights]
            for rule in RULES:
                with within_seconds(5):
                    self.check_by_words(rule, weights, coins)
