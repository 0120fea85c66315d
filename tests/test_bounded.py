import random
import unittest
from itertools import product

from lastcoins.shares import bounded, divisor
from tests.helper import MOST, coin_by_coin, is_given_one_by_one, mixed_bounds, mixed_inputs, within_seconds

RULES = (0, 1, 2)


class BoundedTest(unittest.TestCase):
    def check_by_words(self, weights, lows, highs):
        """Every pot from the lows' sum to the highs' sum."""
        for rule in RULES:
            for pot, coins in coin_by_coin(rule, sum(highs), weights, lows, highs).items():
                self.assertEqual(bounded(rule, pot, weights, lows, highs), [0] + coins, (rule, pot, weights, lows, highs))

    def test_ordinary_inputs(self):
        self.assertEqual(bounded(0, 10, [6, 3, 1], [0, 0, 2], [5, 9, 9]), [0, 5, 3, 2])
        self.assertEqual(bounded(1, 8, [5, 3, 1], [0, 0, 0], [3, 9, 9]), [0, 3, 4, 1])
        self.assertEqual(bounded(2, 8, [5, 3, 1], [0, 4, 0], [9, 9, 9]), [0, 3, 4, 1])

    def test_lows_that_differ(self):
        # Coins are counted with the low: the holder whose low is 2 is at its third, worth 4 / 6.
        self.assertEqual(bounded(0, 4, [4, 4], [2, 0], [9, 9]), [0, 2, 2])
        self.assertEqual(bounded(0, 5, [4, 4], [2, 0], [9, 9]), [0, 3, 2])
        self.assertEqual(bounded(0, 5, [4, 4], [0, 2], [9, 9]), [0, 3, 2])
        self.check_by_words([3, 1, 2], [1, 3, 0], [6, 6, 6])

    def test_lows_above_what_the_rule_alone_gives(self):
        for rule in RULES:
            self.assertEqual(bounded(rule, 10, [9, 1], [0, 6], [10, 10]), [0, 4, 6])
        self.check_by_words([9, 1], [0, 6], [10, 10])
        self.check_by_words([100, 1, 1], [0, 5, 3], [9, 9, 9])

    def test_highs_that_stop_a_holder_early(self):
        for rule in RULES:
            self.assertEqual(bounded(rule, 10, [9, 1], [0, 0], [2, 10]), [0, 2, 8])
        self.check_by_words([9, 1, 4], [0, 0, 0], [2, 10, 3])

    def test_highs_of_zero_and_low_equal_to_high(self):
        for rule in RULES:
            self.assertEqual(bounded(rule, 4, [9, 1], [0, 0], [0, 4]), [0, 0, 4])
            self.assertEqual(bounded(rule, 7, [9, 1, 1], [3, 0, 0], [3, 5, 5]), [0, 3, 2, 2])
            self.assertEqual(bounded(rule, 6, [5, 1], [2, 4], [2, 4]), [0, 2, 4])
            self.assertEqual(bounded(rule, 0, [5, 1], [0, 0], [0, 0]), [0, 0, 0])
        self.check_by_words([5, 3, 2], [0, 2, 1], [0, 2, 6])

    def test_weights_of_zero_get_what_nobody_else_can_have(self):
        for rule in RULES:
            self.assertEqual(bounded(rule, 5, [0, 1], [0, 0], [9, 3]), [0, 2, 3])
            self.assertEqual(bounded(rule, 3, [0, 1], [0, 0], [9, 3]), [0, 0, 3])
            self.assertEqual(bounded(rule, 5, [0, 1], [2, 0], [9, 9]), [0, 2, 3])

    def test_the_weight_of_zero_further_in_front_first_and_all_it_can_have(self):
        for rule in RULES:
            self.assertEqual(bounded(rule, 6, [0, 1, 0, 0], [0, 0, 0, 0], [4, 1, 5, 5]), [0, 4, 1, 1, 0])
            self.assertEqual(bounded(rule, 11, [0, 1, 0, 0], [0, 0, 0, 0], [4, 1, 5, 5]), [0, 4, 1, 5, 1])
            # One low behind does not make up for the place in front.
            self.assertEqual(bounded(rule, 8, [0, 0, 1, 0], [1, 2, 0, 1], [4, 9, 1, 9]), [0, 4, 2, 1, 1])
            self.assertEqual(bounded(rule, 3, [0, 0, 1], [0, 0, 0], [0, 2, 2]), [0, 0, 1, 2])

    def test_weights_of_zero_ahead_of_between_and_behind_others(self):
        for weights in ([0, 2, 1, 3], [2, 0, 1, 3], [2, 1, 3, 0], [0, 2, 0, 1], [0, 2, 3, 0], [2, 0, 0, 1], [0, 0, 0, 1]):
            self.check_by_words(weights, [0, 0, 0, 0], [3, 2, 4, 2])
            self.check_by_words(weights, [1, 0, 2, 0], [3, 2, 4, 0])

    def test_pots_equal_to_the_sums(self):
        for rule in RULES:
            self.assertEqual(bounded(rule, 9, [0, 7, 1], [4, 2, 3], [8, 8, 8]), [0, 4, 2, 3])
            self.assertEqual(bounded(rule, 24, [0, 7, 1], [4, 2, 3], [8, 8, 8]), [0, 8, 8, 8])

    def test_first_coin_of_rule_two_with_and_without_a_low(self):
        self.assertEqual(bounded(2, 2, [1, 5, 9], [0, 0, 0], [9, 9, 9]), [0, 1, 1, 0])
        self.assertEqual(bounded(2, 2, [1, 5, 9], [0, 0, 1], [9, 9, 9]), [0, 1, 0, 1])
        self.assertEqual(bounded(2, 3, [9, 1, 5], [1, 0, 1], [9, 9, 9]), [0, 1, 1, 1])
        self.assertEqual(bounded(2, 3, [9, 1, 5], [1, 0, 1], [9, 0, 9]), [0, 2, 0, 1])
        self.check_by_words([1, 5, 9, 0], [0, 1, 0, 0], [3, 3, 3, 3])

    def test_alike_worths_go_to_the_front(self):
        self.assertEqual(bounded(0, 3, [1, 2], [0, 1], [9, 9]), [0, 1, 2])
        self.assertEqual(bounded(0, 2, [1, 2], [0, 1], [9, 9]), [0, 1, 1])
        self.assertEqual(bounded(0, 2, [2, 1], [1, 0], [9, 9]), [0, 2, 0])
        self.assertEqual(bounded(1, 2, [1, 3], [0, 1], [9, 9]), [0, 1, 1])
        self.assertEqual(bounded(1, 2, [3, 1], [1, 0], [9, 9]), [0, 2, 0])

    def test_two_holders_against_the_words(self):
        spans = [(low, high) for low in (0, 1, 3) for high in (0, 1, 2, 4) if low <= high]
        for weights in product((0, 1, 2, 3), repeat=2):
            if any(weights):
                for one, other in product(spans, repeat=2):
                    self.check_by_words(list(weights), [one[0], other[0]], [one[1], other[1]])

    def test_more_holders_against_the_words(self):
        source = random.Random(5)
        for _ in range(600):
            weights = [source.choice([0, 0, 1, 2, 3, 5, 6, MOST]) for _ in range(source.randint(2, 6))] + [1]
            source.shuffle(weights)
            lows = [source.choice([0, 0, 1, 2, 5]) for _ in weights]
            highs = [low + source.choice([0, 1, 2, 6]) for low in lows]
            self.check_by_words(weights, lows, highs)

    def test_many_holders_against_the_words(self):
        source = random.Random(6)
        for choices in ((0, 1, 2), (1,), (0, 1, 10, MOST), (MOST, MOST - 1)):
            weights = [source.choice(choices) for _ in range(59)] + [1]
            self.check_by_words(weights, [source.randint(0, 2) for _ in weights], [source.randint(2, 5) for _ in weights])

    def test_without_narrow_bounds_it_is_the_divisor_rule(self):
        for pot, weights in mixed_inputs(7, 200):
            for rule in RULES:
                lows, highs = [0] * len(weights), [MOST] * len(weights)
                self.assertEqual(bounded(rule, pot, weights, lows, highs), divisor(rule, pot, weights))

    def test_great_pots(self):
        with within_seconds(5):
            for rule in RULES:
                self.assertEqual(bounded(rule, MOST, [0, 1], [0, 0], [MOST, 1]), [0, MOST - 1, 1])
                self.assertEqual(bounded(rule, MOST, [0, 1, 0], [0, 0, 0], [MOST // 2, 1, MOST]),
                                 [0, MOST // 2, 1, MOST // 2 - 1])
                self.assertEqual(bounded(rule, MOST, [1, MOST], [MOST, 0], [MOST, MOST]), [0, MOST, 0])
                self.assertEqual(bounded(rule, MOST, [1, 1], [MOST - 1, 0], [MOST, MOST]), [0, MOST - 1, 1])
                self.assertEqual(bounded(rule, MOST, [1, MOST], [0, 0], [MOST, 5]), [0, MOST - 5, 5])
                self.assertEqual(bounded(rule, MOST, [3] * 60, [0] * 60, [MOST] * 60),
                                 [0] + [16666666666667] * 40 + [16666666666666] * 20)
            # Worths that differ by the least that two such weights allow.
            weights = [MOST - 1, MOST]
            for rule in RULES:
                answer = bounded(rule, MOST, weights, [1, 1], [MOST - 1, MOST])
                self.assertTrue(is_given_one_by_one(rule, MOST, weights, [1, 1], [MOST - 1, MOST], answer[1:]))

    def test_sixty_holders_of_very_unlike_weights(self):
        weights = [10 ** (holder % 16) for holder in range(60)]
        lows = [10 ** (holder % 13) for holder in range(60)]
        for highs in ([MOST] * 60, [low + 10 ** 14 for low in lows], [low * 9 + 10 ** 13 * 2 for low in lows]):
            for rule in RULES:
                with within_seconds(5):
                    answer = bounded(rule, MOST, weights, lows, highs)
                self.assertEqual(len(answer), 61)
                self.assertTrue(is_given_one_by_one(rule, MOST, weights, lows, highs, answer[1:]), (rule, highs))

    def test_mixed_inputs_give_the_whole_pot_by_the_words(self):
        for pot, weights, lows, highs in mixed_bounds(8, 1000):
            for rule in RULES:
                with within_seconds(5):
                    answer = bounded(rule, pot, weights, lows, highs)
                self.assertEqual(answer[0], 0)
                self.assertEqual(len(answer), 1 + len(weights))
                self.assertEqual(sum(answer[1:]), pot)
                self.assertTrue(is_given_one_by_one(rule, pot, weights, lows, highs, answer[1:]),
                                (rule, pot, weights, lows, highs))

    def test_nobodys_coins_fall_when_the_pot_grows(self):
        for pot, weights, lows, highs in mixed_bounds(9, 40):
            for rule in RULES:
                before = lows
                for more in range(sum(lows), min(sum(highs), sum(lows) + 10) + 1):
                    coins = bounded(rule, more, weights, lows, highs)[1:]
                    self.assertTrue(all(early <= late for early, late in zip(before, coins)))
                    before = coins
