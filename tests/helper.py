"""The document's rules in its own words, slow and plain, and what several tests need."""

import random
import signal
from contextlib import contextmanager
from fractions import Fraction
from itertools import product

MOST = 10 ** 15


def exact_shares(pot, weights):
    return [Fraction(pot * weight, sum(weights)) for weight in weights]


def down_by_words(pot, weights):
    return [share.numerator // share.denominator for share in exact_shares(pot, weights)]


def greatest_by_words(pot, weights):
    coins = down_by_words(pot, weights)
    took = [share - rounded for share, rounded in zip(exact_shares(pot, weights), coins)]
    waiting = list(range(len(weights)))
    for _ in range(pot - sum(coins)):
        # max gives the first of alike ones: the holder further in front.
        holder = max(waiting, key=lambda one: took[one])
        waiting.remove(holder)
        coins[holder] += 1
    return coins


def worth(rule, weight, k):
    """The worth of a holder's k-th coin, in a form in which greater is worth more."""
    if 2 * k - rule == 0:
        return (1, 0)
    return (0, Fraction(weight, 2 * k - rule))


def place_of_coin(rule, weight, k):
    """The worth, with a weight of 0 below every other and alike among themselves."""
    return (-1, 0) if weight == 0 else worth(rule, weight, k)


def coin_by_coin(rule, most, weights, lows, highs):
    """The coins of each pot from the lows' sum to most, given one by one; most is at most the highs' sum."""
    coins = list(lows)
    rows = {sum(coins): list(coins)}
    while sum(coins) < most:
        able = [holder for holder, high in enumerate(highs) if coins[holder] < high]
        weighty = [holder for holder in able if weights[holder] > 0]
        if weighty:
            # max gives the first of alike ones: the holder further in front.
            holder = max(weighty, key=lambda one: worth(rule, weights[one], coins[one] + 1))
        else:
            # The first who can have one gets it until it can have no more.
            holder = able[0]
        coins[holder] += 1
        rows[sum(coins)] = list(coins)
    return rows


def divisor_by_words(rule, most, weights):
    """The coins of each pot from 0 to most, given one by one."""
    return coin_by_coin(rule, most, weights, [0] * len(weights), [most] * len(weights))


def rule_by_words(rule, pot, weights):
    if rule == 3:
        return greatest_by_words(pot, weights)
    return divisor_by_words(rule, pot, weights)[pot]


def is_given_one_by_one(rule, pot, weights, lows, highs, coins):
    """Whether giving the pot one by one ends at these coins, for pots too great to be given so.

    It does just when every coin that was given behind the lows comes ahead of every coin that was not.
    """
    if sum(coins) != pot or not all(low <= has <= high for low, has, high in zip(lows, coins, highs)):
        return False

    def place(holder, k):
        return (place_of_coin(rule, weights[holder], k), -holder)

    holders = range(len(weights))
    given = [place(one, coins[one]) for one in holders if coins[one] > lows[one]]
    waiting = [place(one, coins[one] + 1) for one in holders if coins[one] < highs[one]]
    # A holder of weight 0 may be in the middle of its coins, which then have one place.
    return not given or not waiting or min(given) >= max(waiting)


def is_by_rule(rule, pot, weights, coins):
    """Whether the rule gives these coins, for pots and weights of any size."""
    if rule == 3:
        return coins == greatest_by_words(pot, weights)
    return is_given_one_by_one(rule, pot, weights, [0] * len(weights), [pot] * len(weights), coins)


def small_rows():
    """Rows with alike weights, multiples of one another, and 0 ahead of, between and behind others."""
    for count in range(1, 5):
        for row in product((0, 1, 2, 3, 4, 6), repeat=count):
            if any(row):
                yield list(row)


def mixed_inputs(seed, count):
    """Pots and weights of all sizes, among them many 0, alike and very unlike ones."""
    source = random.Random(seed)
    for _ in range(count):
        choices = [0, 1, MOST] + [source.randint(1, 10 ** source.randint(1, 15)) for _ in range(6)]
        weights = [source.choice(choices) for _ in range(source.randint(1, 60))]
        pot = source.choice([0, 1, len(weights), MOST, source.randint(0, 10 ** source.randint(1, 15))])
        if any(weights):
            yield pot, weights


def mixed_bounds(seed, count):
    """Bounded's pots and rows of all sizes: many highs that stop early, lows far ahead, and weights of 0."""
    source = random.Random(seed)
    for _, weights in mixed_inputs(seed, count):
        size = 10 ** source.randint(0, 13)
        lows = [source.choice([0, 0, 1, source.randint(0, size)]) for _ in weights]
        highs = [low + source.choice([0, 1, source.randint(0, size), source.randint(0, MOST // 60)]) for low in lows]
        least, room = sum(lows), min(sum(highs), MOST)
        pot = source.choice([least, room, source.randint(least, room), min(least + len(weights), room)])
        yield pot, weights, lows, highs


def mixed_pots(seed, count):
    """Weights and pots one after another, together at most 10^15."""
    source = random.Random(seed)
    for pot, weights in mixed_inputs(seed, count):
        pots = [source.choice([0, 1, source.randint(0, pot)]) for _ in range(source.randint(1, 60))]
        while sum(pots) > MOST:
            pots.pop()
        yield weights, pots


@contextmanager
def within_seconds(seconds):
    def stop(number, frame):
        raise AssertionError("no answer within %d seconds" % seconds)

    before = signal.signal(signal.SIGALRM, stop)
    signal.alarm(seconds)
    try:
        yield
    finally:
        signal.alarm(0)
        signal.signal(signal.SIGALRM, before)
