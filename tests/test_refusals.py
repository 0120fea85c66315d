import unittest

from lastcoins.shares import divisor, down, greatest
from tests.helper import MOST, within_seconds

FARTHEST = 10 ** 18


def divisor_by_one(pot, weights):
    return divisor(1, pot, weights)


CALLS = (down, greatest, divisor_by_one)


class RefusalTest(unittest.TestCase):
    def refuse(self, number, pot, weights):
        for call in CALLS:
            self.assertEqual(call(pot, weights), [number], (call, pot, weights))

    def test_pot_out_of_bounds(self):
        for pot in (-1, MOST + 1, -FARTHEST, FARTHEST):
            self.refuse(-12, pot, [1, 2])

    def test_rule_out_of_bounds(self):
        for rule in (-1, 3, 4, -FARTHEST, FARTHEST):
            self.assertEqual(divisor(rule, 5, [1, 2]), [-12])

    def test_row_of_wrong_length(self):
        self.refuse(-12, 5, [])
        self.refuse(-12, 5, [1] * 61)
        self.refuse(-12, 5, [1] * 70)

    def test_weight_out_of_bounds(self):
        for weight in (-1, MOST + 1, -FARTHEST, FARTHEST):
            self.refuse(-12, 5, [weight])
            self.refuse(-12, 5, [weight, 1, 2])
            self.refuse(-12, 5, [1, weight, 2])
            self.refuse(-12, 5, [1, 2, weight])

    def test_weights_all_zero(self):
        for count in (1, 2, 60):
            self.refuse(-2, 5, [0] * count)
        self.refuse(-2, 0, [0])
        for rule in (0, 1, 2):
            self.assertEqual(divisor(rule, 5, [0, 0]), [-2])

    def test_two_faults_at_once(self):
        for pot in (-1, MOST + 1):
            self.refuse(-12, pot, [0, 0])
            self.refuse(-12, pot, [])
        for rule in (-1, 3):
            self.assertEqual(divisor(rule, 5, [0, 0]), [-12])
            self.assertEqual(divisor(rule, -1, [1]), [-12])
            self.assertEqual(divisor(rule, MOST + 1, [0]), [-12])
        self.assertEqual(divisor(2, -1, [0]), [-12])
        # The row's length and bounds are looked at ahead of whether it is all 0.
        self.refuse(-12, 5, [0] * 61)
        self.refuse(-12, 5, [0] * 70)
        self.refuse(-12, 5, [0, 0, -1])
        self.refuse(-12, 5, [1, -1])
        self.refuse(-12, 5, [0, MOST + 1])

    def test_what_is_just_within_bounds_is_not_refused(self):
        for call in CALLS:
            with within_seconds(5):
                self.assertEqual(call(0, [1]), [0, 0])
                self.assertEqual(call(MOST, [MOST]), [0, MOST])
                self.assertEqual(call(MOST, [0, 1]), [0, 0, MOST])
                self.assertEqual(call(60, [1] * 60), [0] + [1] * 60)
                self.assertEqual(call(0, [MOST] * 60), [0] + [0] * 60)
        for rule in (0, 1, 2):
            self.assertEqual(divisor(rule, 4, [1]), [0, 4])
