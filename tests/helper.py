"""The document's rules in its own words, slow and plain, and what several tests need."""

import random
import signal
from contextlib import contextmanager
from fractions import Fraction
from itertools import product

MOST = 10 ** 15


def exact_shares(pot, weights):
    return [Fraction(pot * weight, sum(weights)) for weight in weights]


def down_by_words(pot, weights):
    return [share.numerator // share.denominator for share in exact_shares(pot, weights)]


def greatest_by_words(pot, weights):
    coins = down_by_words(pot, weights)
    took = [share - rounded for share, rounded in zip(exact_shares(pot, weights), coins)]
    waiting = list(range(len(weights)))
    for _ in range(pot - sum(coins)):
        # max gives the first of alike ones: the holder further in front.
        holder = max(waiting, key=lambda one: took[one])
        waiting.remove(holder)
        coins[holder] += 1
    return coins


def worth(rule, weight, k):
    """The worth of a holder's k-th coin, in a form in which greater is worth more."""
    if 2 * k - rule == 0:
        return (1, 0)
    return (0, Fraction(weight, 2 * k - rule))


def divisor_by_words(rule, most, weights):
    """The coins of each pot from 0 to most, given one by one."""
    # Without highs a holder of weight above 0 can always get one, so those of weight 0 never do.
    holders = [holder for holder, weight in enumerate(weights) if weight > 0]
    coins = [0] * len(weights)
    rows = [list(coins)]
    for _ in range(most):
        holder = max(holders, key=lambda one: worth(rule, weights[one], coins[one] + 1))
        coins[holder] += 1
        rows.append(list(coins))
    return rows


def is_given_one_by_one(rule, pot, weights, coins):
    """Whether giving the pot one by one ends at these coins, for pots too great to be given so.

    It does just when every coin that was given comes ahead of every coin that was not.
    """
    holders = [holder for holder, weight in enumerate(weights) if weight > 0]
    if sum(coins) != pot or min(coins) < 0 or sum(coins[holder] for holder in holders) != pot:
        return False
    given = [(worth(rule, weights[one], coins[one]), -one) for one in holders if coins[one] > 0]
    waiting = [(worth(rule, weights[one], coins[one] + 1), -one) for one in holders]
    return not given or min(given) > max(waiting)


def small_rows():
    """Rows with alike weights, multiples of one another, and 0 ahead of, between and behind others."""
    for count in range(1, 5):
        for row in product((0, 1, 2, 3, 4, 6), repeat=count):
            if any(row):
                yield list(row)


def mixed_inputs(seed, count):
    """Pots and weights of all sizes, among them many 0, alike and very unlike ones."""
    source = random.Random(seed)
    for _ in range(count):
        choices = [0, 1, MOST] + [source.randint(1, 10 ** source.randint(1, 15)) for _ in range(6)]
        weights = [source.choice(choices) for _ in range(source.randint(1, 60))]
        pot = source.choice([0, 1, len(weights), MOST, source.randint(0, 10 ** source.randint(1, 15))])
        if any(weights):
            yield pot, weights


@contextmanager
def within_seconds(seconds):
    def stop(number, frame):
        raise AssertionError("no answer within %d seconds" % seconds)

    before = signal.signal(signal.SIGALRM, stop)
    signal.alarm(seconds)
    try:
        yield
    finally:
        signal.alarm(0)
        signal.signal(signal.SIGALRM, before)
