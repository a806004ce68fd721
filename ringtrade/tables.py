"""Tables of shares: made of rows, their heights, and rings along which a share is handed on."""

from ringtrade.dealings import ones_behind
from ringtrade.errors import NoTable
from ringtrade.fractions import NOUGHT, ONE, fraction, has_worth, least, less, minus, plus, total
from ringtrade.steps import ring_of_steps
from ringtrade.wishes import are_unlike, is_below, is_square, is_whole, likes, refuse_too_many_rows


def is_row_of_shares(row, many):
    # A dealing, asked for its rows, has a thing where a row should be.
    if not isinstance(row, (list, tuple)) or len(row) != many or not all([has_worth(share) for share in row]):
        return False
    return not any([less(share, NOUGHT) for share in row]) and total(row) == ONE


def in_lowest_terms(row):
    return tuple([fraction(top, bottom) for top, bottom in row])


def why_no_table(rows):
    for place, row in enumerate(rows):
        if not is_row_of_shares(row, len(rows)):
            return ("row", place)
    for place in range(len(rows)):
        if total([row[place] for row in rows]) != ONE:
            return ("column", place)
    return None


def table_of(rows):
    refuse_too_many_rows(rows)
    why = why_no_table(rows)
    if why is not None:
        raise NoTable(why)
    return tuple([in_lowest_terms(row) for row in rows])


def is_table(wishes, told):
    return is_square(wishes) and len(told) == len(wishes) and why_no_table(told) is None


def hands_that_rise(wishes, table, thing, other):
    # Those that would hand on some of the thing for as much of the other one.
    having = [hand for hand in range(len(wishes)) if less(NOUGHT, table[hand][thing])]
    return [hand for hand in having if likes(wishes, hand, other, thing)]


def steps_up(wishes, table):
    things = list(range(len(table)))
    steps = {}
    for thing in things:
        steps[thing] = [other for other in things if hands_that_rise(wishes, table, thing, other)]
    return steps


def raised(steps, so_far):
    told = list(so_far)
    for thing in steps:
        for other in steps[thing]:
            told[other] = max(told[other], told[thing] + 1)
    return told


def heights(wishes, table):
    steps = steps_up(wishes, table)
    if ring_of_steps(steps) is not None:
        return None
    told = [0] * len(steps)
    # Without a ring no way up has as many steps as there are things, so as many turns raise all to the full.
    for turn in steps:
        told = raised(steps, told)
    return tuple(told)


def rises_from(steps, numbers, thing):
    return all([numbers[other] > numbers[thing] for other in steps[thing]])


def are_heights(wishes, table, numbers):
    if len(numbers) != len(table) or not all([is_whole(number) and number >= 0 for number in numbers]):
        return False
    steps = steps_up(wishes, table)
    return all([rises_from(steps, numbers, thing) for thing in steps])


def share_ring(wishes, table):
    things = ring_of_steps(steps_up(wishes, table))
    if things is None:
        return None
    ring = []
    for thing, other in zip(things, ones_behind(things)):
        ring.append((hands_that_rise(wishes, table, thing, other)[0], thing))
    return tuple(ring)


def is_share_ring(wishes, table, ring):
    hands = [hand for hand, thing in ring]
    things = [thing for hand, thing in ring]
    if not ring or not are_unlike(things, len(table)) or not all([is_below(hand, len(table)) for hand in hands]):
        return False
    # A ring of one pair is none, for no hand likes a thing better than this one itself.
    steps = list(zip(hands, things, ones_behind(things)))
    return all([hand in hands_that_rise(wishes, table, thing, other) for hand, thing, other in steps])


def can_hand(table, ring):
    return least([table[hand][thing] for hand, thing in ring])


def can_be_handed(table, ring, part):
    return has_worth(tuple(part)) and less(NOUGHT, part) and not less(can_hand(table, ring), part)


def handed(table, ring, part):
    told = [list(row) for row in table]
    for pair, behind in zip(ring, ones_behind(ring)):
        row = told[pair[0]]
        row[pair[1]] = minus(row[pair[1]], part)
        row[behind[1]] = plus(row[behind[1]], part)
    return tuple([tuple(row) for row in told])
