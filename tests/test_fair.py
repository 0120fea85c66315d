import unittest
from itertools import product

from lastcoins.shares import divisor, fair
from tests.helper import MOST, divisor_by_words, mixed_inputs, small_rows, within_seconds

RULES = (0, 1, 2)


def with_a_coin_moved(coins):
    """Every row in which one coin of these has gone to another holder."""
    for giver, taker in product(range(len(coins)), repeat=2):
        if giver != taker and coins[giver] > 0:
            moved = list(coins)
            moved[giver] -= 1
            moved[taker] += 1
            yield moved


class FairTest(unittest.TestCase):
    def test_ordinary_inputs(self):
        weights = [100000, 80000, 30000, 20000]
        self.assertEqual(fair(0, weights, [4, 3, 1, 0]), [1])
        self.assertEqual(fair(0, weights, [3, 3, 1, 1]), [0])
        self.assertEqual(fair(1, weights, [3, 3, 1, 1]), [1])
        self.assertEqual(fair(2, weights, [3, 3, 1, 1]), [1])
        self.assertEqual(fair(2, weights, [4, 3, 1, 0]), [0])

    def test_alike_worths_where_the_one_in_front_should_have_it(self):
        for rule in RULES:
            self.assertEqual(fair(rule, [1, 1], [1, 0]), [1])
            self.assertEqual(fair(rule, [1, 1], [0, 1]), [0])
            self.assertEqual(fair(rule, [4, 4, 4], [2, 2, 1]), [1])
            self.assertEqual(fair(rule, [4, 4, 4], [2, 1, 2]), [0])
        self.assertEqual(fair(0, [1, 2], [1, 1]), [1])
        self.assertEqual(fair(0, [1, 2], [0, 2]), [0])
        self.assertEqual(fair(0, [2, 1], [2, 0]), [1])
        self.assertEqual(fair(0, [2, 1], [1, 1]), [0])
        self.assertEqual(fair(2, [1, 5, 9], [1, 1, 0]), [1])
        self.assertEqual(fair(2, [1, 5, 9], [0, 1, 1]), [0])

    def test_a_holder_of_weight_zero(self):
        for rule in RULES:
            self.assertEqual(fair(rule, [0, 1], [0, 5]), [1])
            self.assertEqual(fair(rule, [0, 1], [1, 4]), [0])
            self.assertEqual(fair(rule, [1, 0], [0, 1]), [0])

    def test_all_coins_zero(self):
        for rule in RULES:
            self.assertEqual(fair(rule, [1, 2, 3], [0, 0, 0]), [1])
            self.assertEqual(fair(rule, [0, 7], [0, 0]), [1])
            self.assertEqual(fair(rule, [1] * 60, [0] * 60), [1])

    def test_small_coins_against_the_words(self):
        for weights in small_rows():
            if len(weights) <= 3:
                for rule in RULES:
                    given = divisor_by_words(rule, 9, weights)
                    for coins in product(range(4), repeat=len(weights)):
                        expected = 1 if list(coins) == given[sum(coins)] else 0
                        self.assertEqual(fair(rule, weights, list(coins)), [expected], (rule, weights, coins))

    def test_one_coin_moved(self):
        for weights in ([5, 3, 1], [2, 2, 2], [0, 4, 1, 4]):
            for rule, pot in product(RULES, range(1, 15)):
                coins = divisor_by_words(rule, pot, weights)[pot]
                self.assertEqual(fair(rule, weights, coins), [1])
                for moved in with_a_coin_moved(coins):
                    self.assertEqual(fair(rule, weights, moved), [0], (rule, weights, moved))

    def test_great_coins(self):
        for pot, weights in mixed_inputs(31, 100):
            for rule in RULES:
                coins = divisor(rule, pot, weights)[1:]
                with within_seconds(5):
                    self.assertEqual(fair(rule, weights, coins), [1])
                    for moved, turn in zip(with_a_coin_moved(coins), range(3)):
                        self.assertEqual(fair(rule, weights, moved), [0])

    def test_a_sum_of_just_the_most_and_one_more(self):
        for rule in RULES:
            with within_seconds(5):
                self.assertEqual(fair(rule, [3], [MOST]), [1])
                self.assertEqual(fair(rule, [1, 1], [MOST // 2, MOST // 2]), [1])
                self.assertEqual(fair(rule, [1, 1], [MOST - 1, 1]), [0])
                self.assertEqual(fair(rule, [1, 1], [MOST, 1]), [-6])
                self.assertEqual(fair(rule, [1, 1], [MOST // 2 + 1, MOST // 2]), [-6])
                self.assertEqual(fair(rule, [1] * 60, [MOST] * 60), [-6])
