"""The dealing by rings, round by round, and as a whole."""

from ringtrade.wishes import order_of, things_in


def best_left(row, things):
    return [thing for thing in row if thing in things][0]


def hand_pointed_at(owns, line, thing):
    # The line holds only hands that are left, so what a hand left behind counts as free.
    for hand in line:
        if owns[hand] == thing:
            return hand
    return line[0]


def ring_from(first, targets, behind):
    # None too where first is not the least hand of its ring, so that each ring is told once.
    ring = [(first, targets[first])]
    hand = behind[first]
    while hand > first and len(ring) < len(targets):
        ring.append((hand, targets[hand]))
        hand = behind[hand]
    return tuple(ring) if hand == first else None


def rings_of_round(wishes, owns, line, things):
    targets = {}
    behind = {}
    for hand in line:
        targets[hand] = best_left(wishes[hand], things)
        behind[hand] = hand_pointed_at(owns, line, targets[hand])
    walks = [ring_from(hand, targets, behind) for hand in line]
    return sorted([ring for ring in walks if ring is not None])


def got_in(rings):
    got = {}
    for ring in rings:
        for hand, thing in ring:
            got[hand] = thing
    return got


def rounds(wishes, owns, order=None):
    line = order_of(wishes, order)
    things = list(range(things_in(wishes)))
    told = []
    while line:
        rings = rings_of_round(wishes, owns, line, things)
        got = got_in(rings)
        taken = list(got.values())
        line = [hand for hand in line if hand not in got]
        things = [thing for thing in things if thing not in taken]
        told.append(rings)
    return told


def by_rings(wishes, owns, order=None):
    got = {}
    for rings in rounds(wishes, owns, order):
        got.update(got_in(rings))
    return tuple([got[hand] for hand in range(len(wishes))])
