import unittest

from lastcoins.shares import down
from tests.helper import MOST, down_by_words, mixed_inputs, small_rows, within_seconds


class DownTest(unittest.TestCase):
    def test_ordinary_inputs(self):
        self.assertEqual(down(10, [1, 1, 1]), [1, 3, 3, 3])
        self.assertEqual(down(100, [5, 3, 1]), [1, 55, 33, 11])
        self.assertEqual(down(7, [1, 2, 3, 4]), [2, 0, 1, 2, 2])
        self.assertEqual(down(12, [1, 2, 3]), [0, 2, 4, 6])

    def test_weights_of_zero_get_nothing(self):
        self.assertEqual(down(5, [0, 1, 0, 1, 0]), [1, 0, 2, 0, 2, 0])

    def test_edges(self):
        with within_seconds(5):
            self.assertEqual(down(0, [3, 4]), [0, 0, 0])
            self.assertEqual(down(MOST, [7]), [0, MOST])
            self.assertEqual(down(MOST, [1, MOST]), [1, 0, MOST - 1])
            self.assertEqual(down(MOST, [MOST] * 60), [40] + [16666666666666] * 60)
            self.assertEqual(down(59, [1] * 60), [59] + [0] * 60)

    def test_against_the_words(self):
        for weights in small_rows():
            for pot in range(10):
                coins = down_by_words(pot, weights)
                self.assertEqual(down(pot, weights), [pot - sum(coins)] + coins, (pot, weights))

    def test_leaves_less_than_one_coin_a_holder(self):
        for pot, weights in mixed_inputs(1, 1000):
            answer = down(pot, weights)
            self.assertEqual(len(answer), 1 + len(weights))
            self.assertEqual(sum(answer), pot)
            self.assertTrue(0 <= answer[0] < len(weights), (pot, weights))
            self.assertEqual(answer[1:], down_by_words(pot, weights))
