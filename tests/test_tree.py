import random
import unittest
from itertools import product

from lastcoins.shares import divisor, greatest, tree
from tests.helper import MOST, is_by_rule, mixed_inputs, rule_by_words, small_rows, within_seconds

RULES = (0, 1, 2, 3)


def shares(rule, pot, weights):
    answer = greatest(pot, weights) if rule == 3 else divisor(rule, pot, weights)
    return answer[1:]


def cut(row, sizes):
    """The row in parts of these sizes."""
    parts = []
    rest = list(row)
    for size in sizes:
        parts.append(rest[:size])
        rest = rest[size:]
    return parts


def tree_by_words(rule, pot, weights, sizes):
    groups = cut(weights, sizes)
    coins = []
    for group, part in zip(groups, rule_by_words(rule, pot, [sum(group) for group in groups])):
        coins += rule_by_words(rule, part, group) if any(group) else [0] * len(group)
    return coins


def random_sizes(source, count):
    """Sizes of this sum, some of them 0."""
    sizes = []
    while sum(sizes) < count:
        sizes.append(source.randint(0, min(count - sum(sizes), 6)))
    return sizes


class TreeTest(unittest.TestCase):
    def test_ordinary_inputs(self):
        # Groups of 8 and 2: eight coins and two.
        self.assertEqual(tree(0, 10, [5, 3, 1, 1], [2, 2]), [0, 5, 3, 1, 1])
        # Groups of 3 and 3: two coins each.
        self.assertEqual(tree(0, 4, [1, 1, 1, 3], [3, 1]), [0, 1, 1, 0, 2])
        self.assertEqual(tree(1, 5, [4, 1, 1], [1, 2]), [0, 3, 1, 1])
        self.assertEqual(tree(2, 2, [9, 1, 1, 1], [1, 3]), [0, 1, 1, 0, 0])
        # Shares of the groups 7 and 3 of five coins: 3 1/2 and 1 1/2, and the front one rounds up.
        self.assertEqual(tree(3, 5, [4, 3, 2, 1], [2, 2]), [0, 2, 2, 1, 0])

    def test_groups_decide_ahead_of_holders(self):
        # Without groups the one coin would go to the weight 3; the group of 2 and 2 comes ahead of it.
        for rule in (0, 1, 3):
            self.assertEqual(tree(rule, 1, [3, 2, 2], [1, 2]), [0, 0, 1, 0])
            self.assertEqual(tree(rule, 2, [3, 2, 2], [1, 2]), [0, 1, 1, 0])
        # By rule 2 the first coins go from the front: to the front group, and in it to its front holder.
        self.assertEqual(tree(2, 1, [3, 2, 2], [1, 2]), [0, 1, 0, 0])
        self.assertEqual(tree(2, 1, [3, 2, 2], [2, 1]), [0, 1, 0, 0])
        self.assertEqual(tree(2, 2, [3, 2, 2], [2, 1]), [0, 1, 0, 1])

    def test_sizes_of_zero(self):
        for rule in RULES:
            self.assertEqual(tree(rule, 6, [1, 1, 1], [0, 2, 0, 0, 1, 0]), [0, 2, 2, 2])
            self.assertEqual(tree(rule, 6, [1, 1, 1], [0] * 57 + [1, 1, 1]), [0, 2, 2, 2])
            self.assertEqual(tree(rule, 6, [4], [0, 1]), [0, 6])

    def test_a_group_of_weights_that_are_all_zero(self):
        for rule in RULES:
            self.assertEqual(tree(rule, 6, [0, 0, 1, 1], [2, 2]), [0, 0, 0, 3, 3])
            self.assertEqual(tree(rule, 6, [1, 1, 0, 0], [2, 2]), [0, 3, 3, 0, 0])
            self.assertEqual(tree(rule, 6, [1, 0, 1], [1, 1, 1]), [0, 3, 0, 3])
            self.assertEqual(tree(rule, 7, [0, 0, 0, 1, 0], [1, 2, 2]), [0, 0, 0, 0, 7, 0])

    def test_one_group_is_the_rule_alone(self):
        for pot, weights in mixed_inputs(21, 100):
            for rule in RULES:
                self.assertEqual(tree(rule, pot, weights, [len(weights)]), [0] + shares(rule, pot, weights))

    def test_groups_of_one_holder_each_are_the_rule_alone(self):
        for pot, weights in mixed_inputs(22, 100):
            for rule in RULES:
                self.assertEqual(tree(rule, pot, weights, [1] * len(weights)), [0] + shares(rule, pot, weights))

    def test_small_pots_against_the_words(self):
        for weights in small_rows():
            if len(weights) == 3:
                for sizes in product(range(4), repeat=3):
                    if sum(sizes) == 3:
                        for rule, pot in product(RULES, (0, 1, 4, 7)):
                            coins = tree_by_words(rule, pot, weights, sizes)
                            self.assertEqual(tree(rule, pot, weights, list(sizes)), [0] + coins, (rule, pot, weights, sizes))

    def test_each_groups_coins_are_what_the_groups_sum_gives(self):
        source = random.Random(23)
        for pot, weights in mixed_inputs(24, 150):
            sizes = random_sizes(source, len(weights))
            for rule in RULES:
                with within_seconds(5):
                    answer = tree(rule, pot, weights, sizes)
                self.assertEqual(answer[0], 0)
                self.assertEqual(len(answer), 1 + len(weights))
                self.assertEqual(sum(answer[1:]), pot)
                groups, parts = cut(weights, sizes), cut(answer[1:], sizes)
                sums = [sum(group) for group in groups]
                self.assertTrue(is_by_rule(rule, pot, sums, [sum(part) for part in parts]), (rule, pot, weights, sizes))
                for group, part in zip(groups, parts):
                    if any(group):
                        self.assertEqual(part, shares(rule, sum(part), group), (rule, pot, weights, sizes))
                    else:
                        self.assertEqual(part, [0] * len(group))

    def test_sums_above_what_a_weight_may_be(self):
        for rule in RULES:
            with within_seconds(5):
                self.assertEqual(tree(rule, 9, [MOST] * 3, [2, 1]), [0, 3, 3, 3])
                self.assertEqual(tree(rule, MOST, [MOST] * 60, [60]), [0] + [16666666666667] * 40 + [16666666666666] * 20)
                self.assertEqual(tree(rule, MOST, [MOST] * 60, [30, 30]),
                                 [0] + ([16666666666667] * 20 + [16666666666666] * 10) * 2)

    def test_edges(self):
        for rule in RULES:
            with within_seconds(5):
                self.assertEqual(tree(rule, 0, [3, 4], [1, 1]), [0, 0, 0])
                self.assertEqual(tree(rule, 0, [3], [1]), [0, 0])
                self.assertEqual(tree(rule, MOST, [MOST], [1]), [0, MOST])
                self.assertEqual(tree(rule, 60, [1] * 60, [1] * 60), [0] + [1] * 60)
                self.assertEqual(tree(rule, 60, [1] * 60, [0] * 59 + [60]), [0] + [1] * 60)
