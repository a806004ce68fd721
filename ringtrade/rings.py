"""The dealing by rings, round by round, and as a whole."""

from ringtrade.dealings import best_left, dealing_of, got_in, owner_left
from ringtrade.wishes import order_of, things_in


def hand_pointed_at(owns, line, thing):
    owner = owner_left(owns, line, thing)
    return line[0] if owner is None else owner


def ring_from(first, targets, behind):
    # None too where first is not the least hand of its ring, so that each ring is told once.
    ring = [(first, targets[first])]
    hand = behind[first]
    while hand > first and len(ring) < len(targets):
        ring.append((hand, targets[hand]))
        hand = behind[hand]
    return tuple(ring) if hand == first else None


def rings_of_round(wishes, owns, line, things):
    targets = {}
    behind = {}
    for hand in line:
        targets[hand] = best_left(wishes[hand], things)
        behind[hand] = hand_pointed_at(owns, line, targets[hand])
    walks = [ring_from(hand, targets, behind) for hand in line]
    return sorted([ring for ring in walks if ring is not None])


def rounds(wishes, owns, order=None):
    line = order_of(wishes, order)
    things = list(range(things_in(wishes)))
    told = []
    while line:
        rings = rings_of_round(wishes, owns, line, things)
        got = got_in(rings)
        taken = list(got.values())
        line = [hand for hand in line if hand not in got]
        things = [thing for thing in things if thing not in taken]
        told.append(rings)
    return told


def by_rings(wishes, owns, order=None):
    got = {}
    for rings in rounds(wishes, owns, order):
        got.update(got_in(rings))
    return dealing_of(got)
