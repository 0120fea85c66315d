"""Coins of a pot shared among holders by their weights, to the last coin.

Each call gives back one list: its value and then its rows, or a refusal's number alone.
"""

MOST_COINS = 1000000000000000
MOST_HOLDERS = 60
LAST_DIVISOR_RULE = 2
GREATEST_REMAINDERS = 3

ACCEPTED = 0
OUT_OF_BOUNDS = -12
ALL_WEIGHTS_ZERO = -2
WRONG_COUNT = -1
LOWS_ABOVE_POT = -3
TOO_LITTLE_ROOM = -4
LOW_ABOVE_HIGH = -5
TOO_MANY_COINS = -6
NOBODY_HAS_COINS = -7


def down(pot, weights):
    """Each exact share rounded down; the value is how many coins are left."""
    refused = refusal_of_pot(pot, weights)
    if refused != ACCEPTED:
        return [refused]
    coins = rounded_down(pot, weights)
    return [pot - sum(coins)] + coins


def greatest(pot, weights):
    """Shares by greatest remainders; the value is how many coins rounding down leaves."""
    refused = refusal_of_pot(pot, weights)
    if refused != ACCEPTED:
        return [refused]
    left = pot - sum(rounded_down(pot, weights))
    return [left] + by_greatest_remainders(pot, weights)


def divisor(rule, pot, weights):
    """Shares by the divisor rule 0, 1 or 2; the value is 0."""
    refused = refusal_of_number(rule, LAST_DIVISOR_RULE) or refusal_of_pot(pot, weights)
    if refused != ACCEPTED:
        return [refused]
    return [0] + by_divisor(rule, pot, weights)


def bounded(rule, pot, weights, lows, highs):
    """Shares by the divisor rule 0, 1 or 2 with lows and highs; the value is 0."""
    refused = (
        refusal_of_number(rule, LAST_DIVISOR_RULE)
        or refusal_of_pot(pot, weights)
        or refusal_of_row_beside(weights, lows)
        or refusal_of_row_beside(weights, highs)
        or refusal_of_bounds(pot, lows, highs)
    )
    if refused != ACCEPTED:
        return [refused]
    return [0] + by_divisor_within(rule, pot, weights, lows, highs)


def running(rule, weights, pots):
    """What each pot adds to the shares of all pots before it together; the value is the pots' sum."""
    refused = (
        refusal_of_number(rule, GREATEST_REMAINDERS)
        or refusal_of_weights(weights)
        or refusal_of_row(pots)
        or refusal_of_sum(pots)
    )
    if refused != ACCEPTED:
        return [refused]
    answer = [sum(pots)]
    for row in rows_of_pots(rule, weights, pots):
        # One row alone needs no mark of where it ends.
        if len(pots) > 1:
            answer.append(len(row))
        answer.extend(row)
    return answer


def tree(rule, pot, weights, sizes):
    """Shares among groups of these sizes and then within each group; the value is 0."""
    refused = (
        refusal_of_number(rule, GREATEST_REMAINDERS)
        or refusal_of_pot(pot, weights)
        or refusal_of_row(sizes)
    )
    if refused == ACCEPTED and sum(sizes) != len(weights):
        refused = WRONG_COUNT
    if refused != ACCEPTED:
        return [refused]
    return [0] + by_groups(rule, pot, groups_of(weights, sizes))


def fair(rule, weights, coins):
    """The value is 1 if these coins are what the divisor rule gives of their sum, else 0."""
    refused = refusal_of_coins(rule, weights, coins) or refusal_of_sum(coins)
    if refused != ACCEPTED:
        return [refused]
    return [1 if coins == by_divisor(rule, sum(coins), weights) else 0]


def quota(pot, i, weights):
    """Holder i's exact share: the value is the whole coins, behind it is what rounding took."""
    refused = refusal_of_pot(pot, weights) or refusal_of_number(i, len(weights) - 1)
    if refused != ACCEPTED:
        return [refused]
    return whole_and_rest(pot * weights[i], sum(weights))


def spread(pot, weights, coins):
    """The value is the holder furthest from its exact share, behind it is how far."""
    refused = refusal_of_pot(pot, weights) or refusal_of_row_beside(weights, coins)
    if refused != ACCEPTED:
        return [refused]
    whole = sum(weights)
    # All distances are counted in parts of one size, 1 / whole, so whole numbers compare them.
    distances = [abs(pot * weight - has * whole) for weight, has in zip(weights, coins)]
    furthest = max(distances)
    # index finds the first of alike ones.
    return [distances.index(furthest)] + whole_and_rest(furthest, whole)


def next_of(rule, weights, coins):
    """The value is the holder whose next coin has the greatest worth."""
    refused = refusal_of_coins(rule, weights, coins)
    if refused != ACCEPTED:
        return [refused]
    with_next = [has + 1 for has in coins]
    best = 0
    for holder in range(len(weights)):
        if is_worth_more(rule, weights, with_next, holder, best):
            best = holder
    return [best]


def last(rule, weights, coins):
    """The value is the holder whose last coin has the least worth, of those who have a coin."""
    refused = refusal_of_coins(rule, weights, coins)
    if refused == ACCEPTED and sum(coins) == 0:
        refused = NOBODY_HAS_COINS
    if refused != ACCEPTED:
        return [refused]
    having = [holder for holder, has in enumerate(coins) if has > 0]
    least = having[0]
    for holder in having:
        # Of alike ones the holder further behind comes later and takes the place.
        if not is_worth_more(rule, weights, coins, holder, least):
            least = holder
    return [least]


def moves(rule, pot, other, weights):
    """What each holder has more of the other pot; the value is how many have fewer coins of it."""
    refused = (
        refusal_of_number(rule, GREATEST_REMAINDERS)
        or refusal_of_number(pot, MOST_COINS)
        or refusal_of_pot(other, weights)
    )
    if refused != ACCEPTED:
        return [refused]
    changes = differences(by_rule(rule, pot, weights), by_rule(rule, other, weights))
    return [len([change for change in changes if change < 0])] + changes


def level(pot, caps):
    """Coins given by turns, one each from the front, up to the caps; the value is the greatest share."""
    refused = refusal_of_number(pot, MOST_COINS) or refusal_of_row(caps)
    if refused == ACCEPTED and sum(caps) < pot:
        refused = TOO_LITTLE_ROOM
    if refused != ACCEPTED:
        return [refused]
    # A turn for each is the divisor rule of alike weights: a coin goes to who has fewest, from the front.
    coins = by_divisor_within(0, pot, [1] * len(caps), [0] * len(caps), caps)
    return [max(coins)] + coins


def refusal_of_number(number, most):
    """ACCEPTED if the number is from 0 to most."""
    if number < 0 or number > most:
        return OUT_OF_BOUNDS
    return ACCEPTED


def refusal_of_row(row):
    """ACCEPTED if the row has 1 to 60 numbers, each from 0 to 10^15."""
    if len(row) < 1 or len(row) > MOST_HOLDERS or min(row) < 0 or max(row) > MOST_COINS:
        return OUT_OF_BOUNDS
    return ACCEPTED


def refusal_of_weights(weights):
    """ACCEPTED if these are fit weights of holders and not all are 0."""
    refused = refusal_of_row(weights)
    if refused == ACCEPTED and sum(weights) == 0:
        return ALL_WEIGHTS_ZERO
    return refused


def refusal_of_pot(pot, weights):
    """ACCEPTED if the pot is fit and these are fit weights to share it by."""
    return refusal_of_number(pot, MOST_COINS) or refusal_of_weights(weights)


def refusal_of_row_beside(weights, row):
    """ACCEPTED if the row has a fit number for each holder of these weights."""
    refused = refusal_of_row(row)
    if refused == ACCEPTED and len(row) != len(weights):
        return WRONG_COUNT
    return refused


def refusal_of_coins(rule, weights, coins):
    """ACCEPTED if this is a divisor rule, and these are fit weights and fit coins for them."""
    refused = refusal_of_number(rule, LAST_DIVISOR_RULE) or refusal_of_weights(weights)
    return refused or refusal_of_row_beside(weights, coins)


def refusal_of_bounds(pot, lows, highs):
    """ACCEPTED if the pot can be shared so that each holder has its low or more and its high or less."""
    for low, high in zip(lows, highs):
        if low > high:
            return LOW_ABOVE_HIGH
    if sum(lows) > pot:
        return LOWS_ABOVE_POT
    if sum(highs) < pot:
        return TOO_LITTLE_ROOM
    return ACCEPTED


def refusal_of_sum(row):
    """ACCEPTED if the row's numbers together are a fit pot."""
    if sum(row) > MOST_COINS:
        return TOO_MANY_COINS
    return ACCEPTED


def rounded_down(pot, weights):
    """Each holder's exact share rounded down."""
    whole = sum(weights)
    return [pot * weight // whole for weight in weights]


def by_greatest_remainders(pot, weights):
    """Each holder's coins by greatest remainders."""
    whole = sum(weights)
    coins = rounded_down(pot, weights)
    left = pot - sum(coins)
    # All that rounding took is counted in parts of one size, 1 / whole, so whole numbers compare it.
    taken = [pot * weight % whole for weight in weights]
    # sorted keeps alike ones in their order, so the holder further in front stays ahead.
    ranking = sorted(range(len(weights)), key=lambda holder: -taken[holder])
    for holder in ranking[:left]:
        coins[holder] += 1
    return coins


def by_divisor(rule, pot, weights):
    """Each holder's coins by the divisor rule."""
    return by_divisor_within(rule, pot, weights, [0] * len(weights), [pot] * len(weights))


def by_divisor_within(rule, pot, weights, lows, highs):
    """Each holder's coins by the divisor rule with lows and highs."""
    reach = last_reach(rule, pot, weights, lows, highs)
    coins = coins_in_reach(rule, reach, weights, lows, highs)
    wanted = coins_in_reach(rule, reach + 1, weights, lows, highs)
    left = pot - sum(coins)
    # What one step more would add is a coin each at most, all of alike worth: so they go from the front.
    for holder in range(len(weights)):
        if left > 0 and wanted[holder] > coins[holder]:
            coins[holder] += 1
            left -= 1
    # If coins are left now, every holder of another weight has its high.
    for holder, weight in enumerate(weights):
        if weight == 0:
            added = min(left, highs[holder] - coins[holder])
            coins[holder] += added
            left -= added
    return coins


def last_reach(rule, pot, weights, lows, highs):
    """The greatest reach at which the coins in reach are not more than the pot."""
    # At -1 each holder has its low alone.
    within = -1
    # At the reach ahead of this one each holder of a weight above 0 has its high, or as many coins as the pot.
    beyond = 2 * pot * steps_of_reach(weights) + 1
    while beyond - within > 1:
        middle = (within + beyond) // 2
        if sum(coins_in_reach(rule, middle, weights, lows, highs)) > pot:
            beyond = middle
        else:
            within = middle
    return within


def coins_in_reach(rule, reach, weights, lows, highs):
    """Each holder's coins when its low and all coins of worth steps / reach or more are given.

    A pot may be too great to be given one by one. These coins are given ahead of all others, so they
    are what the holders have at some moment of the giving. Of a holder's coins (weight * reach / steps
    + rule) / 2, rounded down, have that worth; the first coin of rule 2 has it from reach 0 on.
    """
    steps = steps_of_reach(weights)
    coins = list(lows)
    for holder, weight in enumerate(weights):
        if weight > 0:
            worthy = (weight * reach + rule * steps) // (2 * steps)
            coins[holder] = min(max(worthy, lows[holder]), highs[holder])
    return coins


def steps_of_reach(weights):
    """How many steps of reach go to 1: so many that coins of unlike worth never come in one step.

    The inverse worths of coins of two weights, when unlike, are at least 1 / (the one * the other) apart.
    """
    return max(weights) * max(weights)


def is_worth_more(rule, weights, coins, one, other):
    """Whether the last of the one's coins is worth more than the last of the other's; both have coins."""
    if weights[one] == 0 or weights[other] == 0:
        return weights[one] > weights[other]
    # Multiplied crosswise a divisor of 0 counts as the document asks: above all others, and two alike.
    return weights[one] * (2 * coins[other] - rule) > weights[other] * (2 * coins[one] - rule)


def by_rule(rule, pot, weights):
    """Each holder's coins by a divisor rule or by greatest remainders."""
    if rule == GREATEST_REMAINDERS:
        return by_greatest_remainders(pot, weights)
    return by_divisor(rule, pot, weights)


def rows_of_pots(rule, weights, pots):
    """For each pot a row: what each holder has of it and all before it, less what of all before it."""
    rows = []
    together = 0
    before = [0] * len(weights)
    for pot in pots:
        together += pot
        coins = by_rule(rule, together, weights)
        rows.append(differences(before, coins))
        before = coins
    return rows


def differences(before, after):
    """For each holder the coins after less the coins before."""
    return [late - early for early, late in zip(before, after)]


def groups_of(weights, sizes):
    """The weights in groups of these sizes, one behind the other."""
    groups = []
    start = 0
    for size in sizes:
        groups.append(weights[start:start + size])
        start += size
    return groups


def by_groups(rule, pot, groups):
    """Each holder's coins when the pot is shared among groups of weights, then within each."""
    coins = []
    pots = by_rule(rule, pot, [sum(group) for group in groups])
    for group, part in zip(groups, pots):
        # A group without weight has no coins, and the rules need a weight above 0.
        if sum(group) > 0:
            coins.extend(by_rule(rule, part, group))
        else:
            coins.extend([0] * len(group))
    return coins


def whole_and_rest(top, bottom):
    """top / bottom as a whole number and a fraction less than 1 in lowest terms."""
    rest = top % bottom
    common = common_divisor(rest, bottom)
    return [top // bottom, rest // common, bottom // common]


def common_divisor(one, other):
    """The greatest number that divides both; not both are 0."""
    while other > 0:
        rest = one % other
        one = other
        other = rest
    return one
