import random
import unittest
from itertools import product

from lastcoins.shares import level
from tests.helper import MOST, within_seconds


def level_by_words(pot, caps):
    """One each from the front to everybody who has less than the cap, again and again until none is left."""
    coins = [0] * len(caps)
    while sum(coins) < pot:
        for holder, cap in enumerate(caps):
            if coins[holder] < cap and sum(coins) < pot:
                coins[holder] += 1
    return coins


def is_by_turns(pot, caps, coins):
    """Whether the turns end at these coins, for pots too great to be given so."""
    if sum(coins) != pot or min(coins) < 0:
        return False
    turns = max(coins)
    full = all(has == cap for has, cap in zip(coins, caps) if cap < turns)
    # The last turn, which may end in its middle, came from the front to those who could have one more.
    reached = [has for has, cap in zip(coins, caps) if cap >= turns]
    return full and reached == sorted(reached, reverse=True) and min(reached) >= turns - 1


class LevelTest(unittest.TestCase):
    def check_by_words(self, caps):
        for pot in range(sum(caps) + 1):
            coins = level_by_words(pot, caps)
            self.assertEqual(level(pot, caps), [max(coins)] + coins, (pot, caps))
            self.assertTrue(is_by_turns(pot, caps, coins))

    def test_ordinary_inputs(self):
        self.assertEqual(level(6, [9, 9, 9]), [2, 2, 2, 2])
        self.assertEqual(level(8, [1, 9, 9]), [4, 1, 4, 3])
        self.assertEqual(level(9, [2, 5, 3]), [4, 2, 4, 3])

    def test_a_pot_that_ends_in_the_middle_of_a_turn(self):
        self.assertEqual(level(1, [9, 9, 9]), [1, 1, 0, 0])
        self.assertEqual(level(2, [9, 9, 9]), [1, 1, 1, 0])
        self.assertEqual(level(7, [9, 9, 9]), [3, 3, 2, 2])
        self.assertEqual(level(6, [1, 9, 2, 9]), [2, 1, 2, 2, 1])

    def test_caps_of_zero(self):
        self.assertEqual(level(4, [0, 3, 0, 3]), [2, 0, 2, 0, 2])
        self.assertEqual(level(1, [0, 0, 1]), [1, 0, 0, 1])

    def test_one_holder(self):
        self.assertEqual(level(5, [5]), [5, 5])
        self.assertEqual(level(3, [5]), [3, 3])
        self.assertEqual(level(0, [0]), [0, 0])

    def test_a_pot_equal_to_the_sum(self):
        self.assertEqual(level(10, [2, 5, 3]), [5, 2, 5, 3])
        self.assertEqual(level(60, [1] * 60), [1] + [1] * 60)

    def test_a_pot_of_zero(self):
        self.assertEqual(level(0, [2, 5, 3]), [0, 0, 0, 0])
        self.assertEqual(level(0, [0, 0, 0]), [0, 0, 0, 0])

    def test_small_caps_against_the_words(self):
        for count in range(1, 5):
            for caps in product((0, 1, 2, 3, 5), repeat=count):
                self.check_by_words(list(caps))

    def test_many_caps_against_the_words(self):
        source = random.Random(91)
        for count in (7, 30, 59, 60):
            self.check_by_words([source.choice([0, 1, 2, 5, 9]) for _ in range(count)])
        self.check_by_words([3] * 60)

    def test_great_pots(self):
        with within_seconds(5):
            self.assertEqual(level(MOST, [MOST]), [MOST, MOST])
            self.assertEqual(level(MOST, [MOST, MOST]), [MOST // 2, MOST // 2, MOST // 2])
            self.assertEqual(level(MOST - 1, [MOST, MOST]), [MOST // 2, MOST // 2, MOST // 2 - 1])
            self.assertEqual(level(MOST, [1, MOST]), [MOST - 1, 1, MOST - 1])
            self.assertEqual(level(MOST, [MOST] * 60), [16666666666667] + [16666666666667] * 40 + [16666666666666] * 20)
            self.assertEqual(level(MOST, [0] * 59 + [MOST]), [MOST] + [0] * 59 + [MOST])

    def test_great_and_unlike_caps(self):
        source = random.Random(92)
        for _ in range(1000):
            size = 10 ** source.randint(0, 15)
            caps = [source.choice([0, 1, size, source.randint(0, size)]) for _ in range(source.randint(1, 60))]
            room = min(sum(caps), MOST)
            pot = source.choice([0, room, source.randint(0, room), min(len(caps), room)])
            with within_seconds(5):
                answer = level(pot, caps)
            self.assertEqual(answer[0], max(answer[1:]))
            self.assertEqual(len(answer), 1 + len(caps))
            self.assertTrue(is_by_turns(pot, caps, answer[1:]), (pot, caps))
