"""Shares where all eat at once at like speed, and shares weighed along a hand's row."""

from ringtrade.dealings import best_left
from ringtrade.fractions import NOUGHT, ONE, fraction, least, less, minus, plus, times
from ringtrade.wishes import refuse_unless_square, things_in


def time_until_one_is_gone(left, targets):
    return least([times(left[thing], fraction(1, targets.count(thing))) for thing in targets])


def left_after(left, targets, span):
    after = {}
    for thing in left:
        bites = fraction(targets.count(thing), 1)
        after[thing] = minus(left[thing], times(bites, span))
    return after


def not_gone(left):
    told = {}
    for thing in left:
        if left[thing] != NOUGHT:
            told[thing] = left[thing]
    return told


def meals_of(wishes):
    # A meal lasts while nothing is eaten up: what each hand eats of, how long, and what is eaten up at its end.
    left = {}
    for thing in range(things_in(wishes)):
        left[thing] = ONE
    told = []
    while left:
        targets = [best_left(row, left) for row in wishes]
        span = time_until_one_is_gone(left, targets)
        after = left_after(left, targets, span)
        left = not_gone(after)
        told.append((targets, span, tuple([thing for thing in after if thing not in left])))
    return told


def shares_of(wishes, hand, meals):
    shares = [NOUGHT] * things_in(wishes)
    for targets, span, gone in meals:
        thing = targets[hand]
        shares[thing] = plus(shares[thing], span)
    return tuple(shares)


def log_of(meals):
    log = []
    now = NOUGHT
    for targets, span, gone in meals:
        now = plus(now, span)
        log.append((now, gone))
    return log


def eaten(wishes):
    refuse_unless_square(wishes)
    meals = meals_of(wishes)
    table = tuple([shares_of(wishes, hand, meals) for hand in range(len(wishes))])
    return (table, log_of(meals))


def sums_along(wishes, hand, shares):
    sums = []
    so_far = NOUGHT
    for thing in wishes[hand]:
        so_far = plus(so_far, shares[thing])
        sums.append(so_far)
    return sums


def no_less(wishes, hand, shares, others):
    sums = sums_along(wishes, hand, shares)
    other_sums = sums_along(wishes, hand, others)
    return not any([less(one, other) for one, other in zip(sums, other_sums)])
