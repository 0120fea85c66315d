import unittest

from lastcoins.shares import greatest
from tests.helper import MOST, greatest_by_words, mixed_inputs, small_rows, within_seconds


class GreatestTest(unittest.TestCase):
    def test_ordinary_inputs(self):
        self.assertEqual(greatest(100, [5, 3, 1]), [1, 56, 33, 11])
        self.assertEqual(greatest(7, [1, 2, 3, 4]), [2, 1, 1, 2, 3])
        self.assertEqual(greatest(10, [15, 6, 3]), [1, 6, 3, 1])

    def test_alike_roundings_go_to_the_front(self):
        self.assertEqual(greatest(10, [1, 1, 1]), [1, 4, 3, 3])
        self.assertEqual(greatest(11, [1, 1, 1]), [2, 4, 4, 3])
        # Shares 0 1/2, 1 1/2 and 2: alike roundings of unlike weights.
        self.assertEqual(greatest(4, [1, 3, 4]), [1, 1, 1, 2])
        self.assertEqual(greatest(4, [3, 1, 4]), [1, 2, 0, 2])

    def test_weights_of_zero_get_nothing(self):
        self.assertEqual(greatest(5, [0, 1, 0, 1, 0]), [1, 0, 3, 0, 2, 0])
        self.assertEqual(greatest(1, [0, 0, 1]), [0, 0, 0, 1])

    def test_nothing_left(self):
        self.assertEqual(greatest(12, [1, 2, 3]), [0, 2, 4, 6])
        self.assertEqual(greatest(0, [1, 2, 3]), [0, 0, 0, 0])

    def test_edges(self):
        with within_seconds(5):
            self.assertEqual(greatest(MOST, [7]), [0, MOST])
            # Rounding takes 10^15 / (10^15 + 1) from the weight 1 and 1 / (10^15 + 1) from the other.
            self.assertEqual(greatest(MOST, [MOST, 1]), [1, MOST - 1, 1])
            self.assertEqual(greatest(MOST, [MOST] * 60), [40] + [16666666666667] * 40 + [16666666666666] * 20)
            self.assertEqual(greatest(59, [1] * 60), [59] + [1] * 59 + [0])

    def test_against_the_words(self):
        for weights in small_rows():
            for pot in range(10):
                self.assertEqual(greatest(pot, weights)[1:], greatest_by_words(pot, weights), (pot, weights))

    def test_gives_the_whole_pot(self):
        for pot, weights in mixed_inputs(2, 1000):
            answer = greatest(pot, weights)
            self.assertEqual(len(answer), 1 + len(weights))
            self.assertEqual(sum(answer[1:]), pot)
            self.assertEqual(answer[0], pot - sum(pot * weight // sum(weights) for weight in weights))
            self.assertEqual(answer[1:], greatest_by_words(pot, weights), (pot, weights))
