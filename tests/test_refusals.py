"""Each call's refusals alone, and two at once: then the one that is looked for first is answered."""

import unittest
from itertools import combinations

from lastcoins import shares
from tests.helper import MOST, within_seconds

FARTHEST = 10 ** 18
BAD_NUMBERS = (-1, MOST + 1, -FARTHEST, FARTHEST)


def rules(last):
    return [({"rule": rule}, -12) for rule in (-1, last + 1, 7, -FARTHEST, FARTHEST)]


def numbers(name):
    return [({name: number}, -12) for number in BAD_NUMBERS]


def rows(name, row):
    """Rows that are no rows of 1 to 60 numbers from 0 to 10^15, some of them all 0 or of a wrong count too."""
    found = [[], [1] * 61, [1] * 70, [0] * 61, [0] * 70, [-1], [0, -1], row + [-1], row[1:] + [1, 1, MOST + 1]]
    for place in range(len(row)):
        found += [row[:place] + [number] + row[place + 1:] for number in BAD_NUMBERS]
    return [({name: bad}, -12) for bad in found]


def weights(row):
    return rows("weights", row) + [({"weights": [0] * len(row)}, -2)]


def beside(name, row):
    """A row of holders other than the weights: each has as many numbers."""
    return rows(name, row) + [({name: other}, -1) for other in (row[1:], row + [0], [0], [1] * 60)]


# For each call arguments that are taken, and the faults that it refuses, in the order in which it looks for them.
CALLS = {
    "down": (
        {"pot": 7, "weights": [3, 2, 1]},
        numbers("pot") + weights([3, 2, 1]),
    ),
    "greatest": (
        {"pot": 7, "weights": [3, 2, 1]},
        numbers("pot") + weights([3, 2, 1]),
    ),
    "divisor": (
        {"rule": 1, "pot": 7, "weights": [3, 2, 1]},
        rules(2) + numbers("pot") + weights([3, 2, 1]),
    ),
    "bounded": (
        {"rule": 1, "pot": 7, "weights": [3, 2, 1], "lows": [1, 0, 1], "highs": [4, 5, 6]},
        rules(2) + numbers("pot") + weights([3, 2, 1]) + beside("lows", [1, 0, 1]) + beside("highs", [4, 5, 6])
        + [({"lows": [5, 0, 1]}, -5), ({"lows": [1, 0, 7]}, -5), ({"highs": [0, 9, 9]}, -5), ({"highs": [9, 9, 0]}, -5)]
        + [({"pot": 1}, -3), ({"pot": 0}, -3)]
        + [({"pot": 16}, -4), ({"pot": MOST}, -4), ({"highs": [1, 2, 3]}, -4)],
    ),
    "running": (
        {"rule": 1, "weights": [3, 2, 1], "pots": [5, 0, 2]},
        rules(3) + weights([3, 2, 1]) + rows("pots", [5, 0, 2])
        + [({"pots": pots}, -6) for pots in ([MOST, 1], [1, MOST], [MOST] * 60, [MOST // 2 + 1] * 2)],
    ),
    "tree": (
        {"rule": 1, "pot": 7, "weights": [3, 2, 1], "sizes": [2, 0, 1]},
        rules(3) + numbers("pot") + weights([3, 2, 1]) + rows("sizes", [2, 0, 1])
        + [({"sizes": sizes}, -1) for sizes in ([2], [2, 2], [0], [3, 1], [MOST], [1] * 60, [3, MOST])],
    ),
    "fair": (
        {"rule": 1, "weights": [3, 2, 1], "coins": [3, 2, 0]},
        rules(2) + weights([3, 2, 1]) + beside("coins", [3, 2, 0])
        + [({"coins": coins}, -6) for coins in ([MOST, 1, 0], [0, 1, MOST], [MOST] * 3)],
    ),
    "quota": (
        {"pot": 7, "i": 2, "weights": [3, 2, 1]},
        numbers("pot") + weights([3, 2, 1]) + numbers("i") + [({"i": 3}, -12), ({"i": 60}, -12)],
    ),
    "spread": (
        {"pot": 7, "weights": [3, 2, 1], "coins": [3, 2, 0]},
        numbers("pot") + weights([3, 2, 1]) + beside("coins", [3, 2, 0]),
    ),
    "next_of": (
        {"rule": 1, "weights": [3, 2, 1], "coins": [3, 2, 0]},
        rules(2) + weights([3, 2, 1]) + beside("coins", [3, 2, 0]),
    ),
    "last": (
        {"rule": 1, "weights": [3, 2, 1], "coins": [3, 2, 0]},
        rules(2) + weights([3, 2, 1]) + beside("coins", [3, 2, 0]) + [({"coins": [0, 0, 0]}, -7)],
    ),
    "moves": (
        {"rule": 1, "pot": 7, "other": 5, "weights": [3, 2, 1]},
        rules(3) + numbers("pot") + numbers("other") + weights([3, 2, 1]),
    ),
    "level": (
        {"pot": 5, "caps": [3, 0, 4]},
        numbers("pot") + rows("caps", [3, 0, 4])
        + [({"pot": 8}, -4), ({"pot": MOST}, -4), ({"caps": [3, 0, 1]}, -4), ({"caps": [0, 0]}, -4), ({"caps": [4]}, -4)],
    ),
}

LAST_RULES = {
    "divisor": 2, "bounded": 2, "running": 3, "tree": 3, "fair": 2, "next_of": 2, "last": 2, "moves": 3,
}


class RefusalTest(unittest.TestCase):
    def ask(self, name, changes):
        given = dict(CALLS[name][0])
        given.update(changes)
        with within_seconds(5):
            return getattr(shares, name)(**given)

    def test_each_fault_alone(self):
        for name, (given, faults) in CALLS.items():
            for fault, number in faults:
                self.assertEqual(self.ask(name, fault), [number], (name, fault))

    def test_two_faults_at_once(self):
        for name, (given, faults) in CALLS.items():
            for (one, number), (other, later) in combinations(faults, 2):
                if not set(one) & set(other):
                    self.assertEqual(self.ask(name, {**one, **other}), [number], (name, one, other))

    def test_what_has_no_fault_is_taken(self):
        for name in CALLS:
            self.assertGreater(len(self.ask(name, {})), 0)
            self.assertGreaterEqual(self.ask(name, {})[0], 0, name)

    def test_rules_just_within_bounds_are_taken(self):
        for name, last in LAST_RULES.items():
            for rule in range(last + 1):
                self.assertGreaterEqual(self.ask(name, {"rule": rule})[0], 0, (name, rule))

    def test_pots_and_weights_just_within_bounds_are_taken(self):
        for call in (shares.down, shares.greatest, lambda pot, row: shares.divisor(1, pot, row)):
            with within_seconds(5):
                self.assertEqual(call(0, [1]), [0, 0])
                self.assertEqual(call(MOST, [MOST]), [0, MOST])
                self.assertEqual(call(MOST, [0, 1]), [0, 0, MOST])
                self.assertEqual(call(60, [1] * 60), [0] + [1] * 60)
                self.assertEqual(call(0, [MOST] * 60), [0] + [0] * 60)

    def test_bounds_of_bounded(self):
        # A low above its high comes ahead of sums that don't fit, and the lows' sum ahead of the highs'.
        self.assertEqual(self.ask("bounded", {"lows": [9, 9, 9]}), [-5])
        self.assertEqual(self.ask("bounded", {"lows": [1, 0, 1], "highs": [0, 0, 0]}), [-5])
        self.assertEqual(self.ask("bounded", {"pot": 0, "lows": [0, 6, 0]}), [-5])
        self.assertEqual(self.ask("bounded", {"pot": MOST, "lows": [0, 6, 0]}), [-5])
        self.assertEqual(self.ask("bounded", {"pot": MOST, "lows": [MOST] * 3, "highs": [MOST] * 3}), [-3])
        self.assertEqual(self.ask("bounded", {"lows": [4, 3, 1]}), [-3])
        # Sums that just fit, and those one coin off.
        self.assertEqual(self.ask("bounded", {"pot": 2}), [0, 1, 0, 1])
        self.assertEqual(self.ask("bounded", {"pot": 15}), [0, 4, 5, 6])
        self.assertEqual(self.ask("bounded", {"pot": 0, "lows": [0] * 3, "highs": [0] * 3}), [0, 0, 0, 0])
        self.assertEqual(self.ask("bounded", {"pot": 1, "lows": [0] * 3, "highs": [0] * 3}), [-4])
        # Lows and highs may be all 0 or 10^15, and highs together may be more than any pot.
        self.assertEqual(self.ask("bounded", {"pot": 6, "lows": [0] * 3, "highs": [MOST] * 3}), [0, 3, 2, 1])
        self.assertEqual(self.ask("bounded", {"pot": MOST, "lows": [0, MOST, 0], "highs": [MOST] * 3}), [0, 0, MOST, 0])

    def test_pots_together(self):
        self.assertEqual(self.ask("running", {"pots": [MOST]})[0], MOST)
        self.assertEqual(self.ask("running", {"pots": [MOST - 1, 1]})[0], MOST)
        self.assertEqual(self.ask("running", {"pots": [0] * 59 + [MOST]})[0], MOST)
        self.assertEqual(self.ask("running", {"pots": [MOST - 1, 1, 1]}), [-6])
        self.assertEqual(self.ask("running", {"pots": [0] * 58 + [1, MOST]}), [-6])
        self.assertEqual(self.ask("running", {"pots": [0]}), [0, 0, 0, 0])
        # A number out of bounds comes ahead of the sum.
        self.assertEqual(self.ask("running", {"pots": [MOST, MOST, -1]}), [-12])
        self.assertEqual(self.ask("running", {"pots": [MOST] * 61}), [-12])

    def test_sizes_together(self):
        self.assertEqual(self.ask("tree", {"sizes": [0] * 59 + [3]})[0], 0)
        self.assertEqual(self.ask("tree", {"sizes": [0] * 60 + [3]}), [-12])
        self.assertEqual(self.ask("tree", {"sizes": [4, -1]}), [-12])
        self.assertEqual(self.ask("tree", {"sizes": [3, MOST + 1]}), [-12])
        self.assertEqual(self.ask("tree", {"sizes": [0] * 60}), [-1])
        self.assertEqual(self.ask("tree", {"weights": [0, 0, 0], "sizes": [1]}), [-2])

    def test_a_holder_is_looked_at_last(self):
        self.assertEqual(self.ask("quota", {"i": -1, "weights": [0, 0, 0]}), [-2])
        self.assertEqual(self.ask("quota", {"i": 3, "weights": [0, 0, 0]}), [-2])
        self.assertEqual(self.ask("quota", {"i": 3, "weights": [3, 2, 1, 1]})[0], 1)

    def test_coins_together(self):
        self.assertEqual(self.ask("fair", {"coins": [MOST, 0, 0]}), [0])
        self.assertEqual(self.ask("fair", {"coins": [MOST - 1, 0, 2]}), [-6])
        # Numbers out of bounds and a wrong count come ahead of the sum; spread asks nothing of the sum.
        self.assertEqual(self.ask("fair", {"coins": [MOST, MOST, -1]}), [-12])
        self.assertEqual(self.ask("fair", {"coins": [MOST, MOST]}), [-1])
        self.assertEqual(self.ask("spread", {"pot": 0, "coins": [MOST, MOST, MOST]}), [0, MOST, 0, 1])

    def test_the_other_pot_and_nobody_with_a_coin(self):
        for pot in (0, MOST):
            self.assertGreaterEqual(self.ask("moves", {"other": pot})[0], 0)
        self.assertEqual(self.ask("moves", {"other": -1, "weights": [0, 0, 0]}), [-12])
        self.assertEqual(self.ask("moves", {"pot": MOST + 1, "weights": [0, 0, 0]}), [-12])
        # Coins that are all 0 are refused by last alone, and there behind all else; their sum has no bound.
        self.assertEqual(self.ask("next_of", {"coins": [0, 0, 0]}), [0])
        self.assertEqual(self.ask("last", {"coins": [0, 0]}), [-1])
        self.assertEqual(self.ask("last", {"coins": [0, 0, 0, -1]}), [-12])
        self.assertEqual(self.ask("next_of", {"coins": [MOST, MOST, MOST]}), [0])
        self.assertEqual(self.ask("last", {"coins": [MOST, MOST, MOST]}), [2])

    def test_caps_together(self):
        self.assertEqual(self.ask("level", {"pot": 7}), [4, 3, 0, 4])
        self.assertEqual(self.ask("level", {"pot": 8}), [-4])
        self.assertEqual(self.ask("level", {"pot": 0, "caps": [0, 0, 0]}), [0, 0, 0, 0])
        self.assertEqual(self.ask("level", {"pot": 1, "caps": [0, 0, 0]}), [-4])
        self.assertEqual(self.ask("level", {"pot": MOST, "caps": [MOST]}), [MOST, MOST])
        self.assertEqual(self.ask("level", {"pot": MOST, "caps": [MOST - 1]}), [-4])
        self.assertEqual(self.ask("level", {"pot": 0, "caps": [MOST] * 60}), [0] + [0] * 60)
        # Numbers out of bounds and a wrong length come ahead of the sum.
        self.assertEqual(self.ask("level", {"pot": 5, "caps": [1, -1]}), [-12])
        self.assertEqual(self.ask("level", {"pot": 5, "caps": [0] * 61}), [-12])
        self.assertEqual(self.ask("level", {"pot": 5, "caps": []}), [-12])
