"""Coins of a pot shared among holders by their weights, to the last coin.

Each call gives back one list: its value and then its row, or a refusal's number alone.
"""

MOST_COINS = 1000000000000000
MOST_HOLDERS = 60
LAST_DIVISOR_RULE = 2

ACCEPTED = 0
OUT_OF_BOUNDS = -12
ALL_WEIGHTS_ZERO = -2


def down(pot, weights):
    """Each exact share rounded down; the value is how many coins are left."""
    refused = refusal_of_number(pot, MOST_COINS) or refusal_of_weights(weights)
    if refused != ACCEPTED:
        return [refused]
    coins = rounded_down(pot, weights)
    return [pot - sum(coins)] + coins


def greatest(pot, weights):
    """Shares by greatest remainders; the value is how many coins rounding down leaves."""
    refused = refusal_of_number(pot, MOST_COINS) or refusal_of_weights(weights)
    if refused != ACCEPTED:
        return [refused]
    left = pot - sum(rounded_down(pot, weights))
    return [left] + by_greatest_remainders(pot, weights)


def divisor(rule, pot, weights):
    """Shares by the divisor rule 0, 1 or 2; the value is 0."""
    refused = (
        refusal_of_number(rule, LAST_DIVISOR_RULE)
        or refusal_of_number(pot, MOST_COINS)
        or refusal_of_weights(weights)
    )
    if refused != ACCEPTED:
        return [refused]
    return [0] + by_divisor(rule, pot, weights)


def refusal_of_number(number, most):
    """ACCEPTED if the number is from 0 to most."""
    if number < 0 or number > most:
        return OUT_OF_BOUNDS
    return ACCEPTED


def refusal_of_row(row):
    """ACCEPTED if the row has a fit number for each of 1 to 60 holders."""
    if len(row) < 1 or len(row) > MOST_HOLDERS:
        return OUT_OF_BOUNDS
    for number in row:
        if refusal_of_number(number, MOST_COINS) != ACCEPTED:
            return OUT_OF_BOUNDS
    return ACCEPTED


def refusal_of_weights(weights):
    """ACCEPTED if these are fit weights of holders and not all are 0."""
    refused = refusal_of_row(weights)
    if refused == ACCEPTED and sum(weights) == 0:
        return ALL_WEIGHTS_ZERO
    return refused


def rounded_down(pot, weights):
    """Each holder's exact share rounded down."""
    whole = sum(weights)
    return [pot * weight // whole for weight in weights]


def by_greatest_remainders(pot, weights):
    """Each holder's coins by greatest remainders."""
    whole = sum(weights)
    coins = rounded_down(pot, weights)
    left = pot - sum(coins)
    # All that rounding took is counted in parts of one size, 1 / whole, so whole numbers compare it.
    taken = [pot * weight % whole for weight in weights]
    # sorted keeps alike ones in their order, so the holder further in front stays ahead.
    ranking = sorted(range(len(weights)), key=lambda holder: -taken[holder])
    for holder in ranking[:left]:
        coins[holder] += 1
    return coins


def by_divisor(rule, pot, weights):
    """Each holder's coins by the divisor rule."""
    coins = coins_given_early(rule, pot, weights)
    for turn in range(pot - sum(coins)):
        coins[next_holder(rule, weights, coins)] += 1
    return coins


def coins_given_early(rule, pot, weights):
    """What each holder has at some moment of the giving when fewer coins than holders are left.

    A pot may be too great to be given one by one. All coins of worth 1 / t or more are given
    ahead of all others, and a holder has (weight * t + rule) / 2 of them, rounded down. With
    t = reach / whole these, before rounding, are together at most the pot, so they never pass it.
    """
    whole = sum(weights)
    reach = 2 * pot - rule * len(weights)
    # Below 0 there is no such t, but then the pot is smaller than the number of holders.
    if reach < 0:
        return [0 for weight in weights]
    # A holder of weight 0 gets nothing: some weight is above 0, and that holder can always get one more.
    return [(weight * reach + rule * whole) // (2 * whole) if weight > 0 else 0 for weight in weights]


def next_holder(rule, weights, coins):
    """The holder whose next coin has the greatest worth; some weight is above 0."""
    best = -1
    for holder, weight in enumerate(weights):
        if weight > 0 and (best < 0 or next_is_worth_more(rule, weights, coins, holder, best)):
            best = holder
    return best


def next_is_worth_more(rule, weights, coins, one, other):
    """Whether the next coin of the one is worth more than that of the other, both of weights above 0."""
    one_divisor = 2 * (coins[one] + 1) - rule
    other_divisor = 2 * (coins[other] + 1) - rule
    # Multiplied crosswise a divisor of 0 counts as the document asks: above all others, and two alike.
    return weights[one] * other_divisor > weights[other] * one_divisor
