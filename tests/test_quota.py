import unittest

from lastcoins.shares import down, quota
from tests.helper import MOST, exact_shares, mixed_inputs, small_rows, within_seconds


class QuotaTest(unittest.TestCase):
    def check_by_words(self, pot, weights):
        for holder, share in enumerate(exact_shares(pot, weights)):
            rest = share - share.numerator // share.denominator
            expected = [share.numerator // share.denominator, rest.numerator, rest.denominator]
            self.assertEqual(quota(pot, holder, weights), expected, (pot, holder, weights))

    def test_ordinary_inputs(self):
        self.assertEqual(quota(10, 0, [1, 1, 1]), [3, 1, 3])
        self.assertEqual(quota(7, 3, [1, 2, 3, 4]), [2, 4, 5])
        self.assertEqual(quota(100, 2, [5, 3, 1]), [11, 1, 9])

    def test_a_share_without_a_rest(self):
        self.assertEqual(quota(12, 1, [1, 2, 3]), [4, 0, 1])
        self.assertEqual(quota(9, 0, [5]), [9, 0, 1])

    def test_a_fraction_that_is_to_be_shortened(self):
        self.assertEqual(quota(5, 0, [2, 6]), [1, 1, 4])
        self.assertEqual(quota(5, 1, [2, 6]), [3, 3, 4])
        self.assertEqual(quota(1, 0, [6, 3]), [0, 2, 3])
        self.assertEqual(quota(1, 0, [MOST, MOST]), [0, 1, 2])

    def test_a_weight_of_zero_and_a_pot_of_zero(self):
        self.assertEqual(quota(5, 1, [3, 0, 4]), [0, 0, 1])
        self.assertEqual(quota(0, 0, [3, 4]), [0, 0, 1])
        self.assertEqual(quota(0, 1, [3, 0]), [0, 0, 1])

    def test_great_numbers(self):
        with within_seconds(5):
            self.assertEqual(quota(MOST, 0, [MOST]), [MOST, 0, 1])
            self.assertEqual(quota(MOST, 1, [1, MOST]), [MOST - 1, 1, MOST + 1])
            self.assertEqual(quota(MOST, 0, [1, MOST]), [0, MOST, MOST + 1])
            self.assertEqual(quota(MOST, 59, [MOST] * 60), [16666666666666, 2, 3])
            # Weights in which Euclid's steps are many.
            self.assertEqual(quota(1, 0, [498454011879264, 308061521170129]), [0, 498454011879264, 806515533049393])

    def test_small_pots_against_the_words(self):
        for weights in small_rows():
            for pot in range(8):
                self.check_by_words(pot, weights)

    def test_mixed_inputs_against_the_words(self):
        for pot, weights in mixed_inputs(41, 300):
            with within_seconds(5):
                self.check_by_words(pot, weights)

    def test_the_value_is_what_down_gives(self):
        for pot, weights in mixed_inputs(42, 100):
            coins = down(pot, weights)[1:]
            self.assertEqual([quota(pot, holder, weights)[0] for holder in range(len(weights))], coins)

    def test_holders_at_the_ends(self):
        self.assertEqual(quota(7, 0, [3, 2, 1]), [3, 1, 2])
        self.assertEqual(quota(7, 2, [3, 2, 1]), [1, 1, 6])
        for i in (-1, -3, 3, 4, 60, 10 ** 18, -10 ** 18):
            self.assertEqual(quota(7, i, [3, 2, 1]), [-12])
        self.assertEqual(quota(60, 59, [1] * 60), [1, 0, 1])
        self.assertEqual(quota(60, 60, [1] * 60), [-12])
        self.assertEqual(quota(5, 1, [1]), [-12])
