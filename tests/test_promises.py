"""The document's promises over all calls that share coins, each for many inputs."""

import random
import unittest
from fractions import Fraction

from lastcoins.shares import bounded, divisor, down, greatest, level, moves, running, tree
from tests.helper import MOST, exact_shares, mixed_bounds, mixed_inputs, mixed_pots, small_rows

DIVISOR_RULES = (0, 1, 2)


def many_inputs(seed, count):
    yield from mixed_inputs(seed, count)
    for weights in small_rows():
        if len(weights) <= 3:
            for pot in range(8):
                yield pot, weights


class PromiseTest(unittest.TestCase):
    def test_all_rules_but_down_give_the_whole_pot(self):
        for pot, weights in many_inputs(101, 100):
            self.assertEqual(sum(greatest(pot, weights)[1:]), pot)
            halves = [len(weights) // 2, len(weights) - len(weights) // 2]
            for rule in DIVISOR_RULES:
                self.assertEqual(sum(divisor(rule, pot, weights)[1:]), pot)
            for rule in (0, 1, 2, 3):
                self.assertEqual(sum(tree(rule, pot, weights, halves)[1:]), pot)
                self.assertEqual(sum(running(rule, weights, [pot])[1:]), pot)
                self.assertEqual(sum(moves(rule, 0, pot, weights)[1:]), pot)
        for pot, weights, lows, highs in mixed_bounds(102, 100):
            for rule in DIVISOR_RULES:
                self.assertEqual(sum(bounded(rule, pot, weights, lows, highs)[1:]), pot)
            self.assertEqual(sum(level(pot, highs)[1:]), pot)

    def test_down_leaves_less_than_one_coin_a_holder(self):
        for pot, weights in many_inputs(103, 1000):
            answer = down(pot, weights)
            self.assertEqual(sum(answer), pot)
            self.assertTrue(0 <= answer[0] < len(weights), (pot, weights))

    def test_nobodys_coins_fall_when_the_pot_grows(self):
        source = random.Random(104)
        for pot, weights in many_inputs(105, 100):
            for more in (min(pot + 1, MOST), source.randint(pot, MOST)):
                for rule in DIVISOR_RULES:
                    before, after = divisor(rule, pot, weights)[1:], divisor(rule, more, weights)[1:]
                    self.assertTrue(all(early <= late for early, late in zip(before, after)), (rule, pot, more, weights))

    def test_a_holder_of_a_greater_weight_never_has_fewer(self):
        for pot, weights in many_inputs(106, 300):
            for rule in (0, 1):
                # In the order of weight, and of alike weights in the order of coins, no number of coins falls.
                ranked = sorted(zip(weights, divisor(rule, pot, weights)[1:]))
                coins = [has for weight, has in ranked]
                self.assertEqual(coins, sorted(coins), (rule, pot, weights))

    def test_rule_two_does_not_promise_so(self):
        self.assertEqual(divisor(2, 1, [1, 9]), [0, 1, 0])

    def test_down_and_greatest_are_within_one_coin_of_the_exact_share(self):
        for pot, weights in many_inputs(107, 1000):
            for call in (down, greatest):
                for has, share in zip(call(pot, weights)[1:], exact_shares(pot, weights)):
                    self.assertLess(abs(has - share), Fraction(1), (call, pot, weights))

    def test_pots_one_after_another_give_what_one_pot_of_their_sum_gives(self):
        for weights, pots in mixed_pots(108, 40):
            if len(pots) > 1:
                for rule in (0, 1, 2, 3):
                    answer = running(rule, weights, pots)
                    width = len(weights) + 1
                    totals = [sum(answer[1 + place::width]) for place in range(1, width)]
                    one = running(rule, weights, [sum(pots)])
                    self.assertEqual([answer[0]] + totals, one, (rule, weights, pots))
                    self.assertEqual(totals, (greatest(sum(pots), weights) if rule == 3
                                              else divisor(rule, sum(pots), weights))[1:])
