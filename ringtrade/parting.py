"""Tables of shares parted into sure dealings, and parts mixed to a table."""

from ringtrade.dealings import dealing_of
from ringtrade.fractions import NOUGHT, has_worth, least, less, minus, total
from ringtrade.wishes import has_each_once


def share_in(parts, hand, thing):
    return total([part for part, dealing in parts if dealing[hand] == thing])


def mixed(parts):
    many = len(parts[0][1])
    table = []
    for hand in range(many):
        table.append(tuple([share_in(parts, hand, thing) for thing in range(many)]))
    return tuple(table)


def finds_a_thing(things_of, hand, tried, keepers):
    # One that keeps a thing already goes over to another one, if it can, to make room.
    for thing in things_of[hand]:
        if thing not in tried:
            tried[thing] = True
            if thing not in keepers or finds_a_thing(things_of, keepers[thing], tried, keepers):
                keepers[thing] = hand
                return True
    return False


def dealing_within(table):
    # Each hand finds a thing, for whichever hands have shares of no fewer things than they are.
    things_of = []
    for row in table:
        things_of.append([thing for thing, share in enumerate(row) if less(NOUGHT, share)])
    keepers = {}
    for hand in range(len(table)):
        finds_a_thing(things_of, hand, {}, keepers)
    got = {}
    for thing in keepers:
        got[keepers[thing]] = thing
    return dealing_of(got)


def without(table, part, dealing):
    told = []
    for row, got in zip(table, dealing):
        told.append([minus(share, part) if thing == got else share for thing, share in enumerate(row)])
    return told


def parted(table):
    # The least share is used up each time, so no dealing comes twice. The tables of n hands are a body of
    # (n - 1) * (n - 1) dimensions, and what is left lies on a side of the side before: so one part more is the most.
    left = table
    parts = []
    while total(left[0]) != NOUGHT:
        dealing = dealing_within(left)
        part = least([row[thing] for row, thing in zip(left, dealing)])
        parts.append((part, dealing))
        left = without(left, part, dealing)
    return parts


def is_part(part, dealing, many):
    return has_worth(tuple(part)) and less(NOUGHT, part) and has_each_once(dealing, many)


def are_parts(parts, many):
    if not parts or len(parts) > (many - 1) * (many - 1) + 1:
        return False
    if not all([is_part(part, dealing, many) for part, dealing in parts]):
        return False
    return len(set([tuple(dealing) for part, dealing in parts])) == len(parts)
