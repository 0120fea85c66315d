import random
import unittest
from itertools import product

from lastcoins.shares import spread
from tests.helper import MOST, exact_shares, mixed_inputs, small_rows, within_seconds


class SpreadTest(unittest.TestCase):
    def check_by_words(self, pot, weights, coins):
        far = [abs(has - share) for has, share in zip(coins, exact_shares(pot, weights))]
        whole = max(far).numerator // max(far).denominator
        rest = max(far) - whole
        expected = [far.index(max(far)), whole, rest.numerator, rest.denominator]
        self.assertEqual(spread(pot, weights, coins), expected, (pot, weights, coins))

    def test_ordinary_inputs(self):
        # Shares of 3 1/2, 2 1/3 and 1 1/6.
        self.assertEqual(spread(7, [3, 2, 1], [4, 2, 1]), [0, 0, 1, 2])
        self.assertEqual(spread(7, [3, 2, 1], [3, 3, 1]), [1, 0, 2, 3])
        self.assertEqual(spread(7, [3, 2, 1], [3, 2, 2]), [2, 0, 5, 6])

    def test_the_first_of_alike_distances(self):
        # A coin too many and a coin too few are alike.
        self.assertEqual(spread(4, [1, 1], [3, 1]), [0, 1, 0, 1])
        self.assertEqual(spread(4, [1, 1], [1, 3]), [0, 1, 0, 1])
        self.assertEqual(spread(6, [1, 1, 1], [2, 1, 3]), [1, 1, 0, 1])
        self.assertEqual(spread(5, [1, 1], [3, 2]), [0, 0, 1, 2])

    def test_distances_above_one_coin(self):
        self.assertEqual(spread(10, [1, 1, 1], [10, 0, 0]), [0, 6, 2, 3])
        self.assertEqual(spread(10, [1, 1, 1], [4, 6, 0]), [2, 3, 1, 3])
        self.assertEqual(spread(8, [1, 3], [8, 0]), [0, 6, 0, 1])

    def test_distances_of_zero(self):
        self.assertEqual(spread(12, [1, 2, 3], [2, 4, 6]), [0, 0, 0, 1])
        self.assertEqual(spread(0, [1, 2], [0, 0]), [0, 0, 0, 1])
        self.assertEqual(spread(9, [4], [9]), [0, 0, 0, 1])

    def test_a_fraction_that_is_to_be_shortened(self):
        # Shares of 1 2/8 and 3 6/8.
        self.assertEqual(spread(5, [2, 6], [1, 4]), [0, 0, 1, 4])
        self.assertEqual(spread(5, [2, 6], [2, 3]), [0, 0, 3, 4])
        self.assertEqual(spread(5, [2, 6], [4, 1]), [0, 2, 3, 4])

    def test_coins_whose_sum_is_not_the_pot(self):
        self.assertEqual(spread(4, [1, 1], [0, 0]), [0, 2, 0, 1])
        self.assertEqual(spread(4, [1, 1], [2, 9]), [1, 7, 0, 1])
        self.assertEqual(spread(0, [1, 1], [0, 5]), [1, 5, 0, 1])

    def test_weights_of_zero(self):
        self.assertEqual(spread(4, [0, 1], [3, 2]), [0, 3, 0, 1])
        self.assertEqual(spread(4, [1, 0], [4, 0]), [0, 0, 0, 1])

    def test_great_coins_and_great_weights(self):
        with within_seconds(5):
            self.assertEqual(spread(0, [MOST] * 60, [MOST] * 60), [0, MOST, 0, 1])
            self.assertEqual(spread(MOST, [MOST] * 60, [0] * 59 + [MOST]), [59, 983333333333333, 1, 3])
            self.assertEqual(spread(MOST, [1, MOST], [0, MOST]), [0, 0, MOST, MOST + 1])
            self.assertEqual(spread(MOST, [1, MOST], [1, MOST]), [1, 0, MOST, MOST + 1])
            self.assertEqual(spread(MOST, [1, MOST - 1], [1, MOST]), [1, 1, 0, 1])

    def test_small_coins_against_the_words(self):
        for weights in small_rows():
            if len(weights) <= 3:
                for pot in (0, 1, 4):
                    for coins in product((0, 1, 4), repeat=len(weights)):
                        self.check_by_words(pot, weights, list(coins))

    def test_mixed_inputs_against_the_words(self):
        source = random.Random(51)
        for pot, weights in mixed_inputs(52, 1000):
            coins = [source.choice([0, pot, pot * weight // sum(weights), source.randint(0, MOST)]) for weight in weights]
            with within_seconds(5):
                self.check_by_words(pot, weights, coins)
                self.check_by_words(pot, weights, [pot * weight // sum(weights) for weight in weights])
