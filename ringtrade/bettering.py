"""Betterments of a dealing, rings and lines of hands, and dealings bettered by them."""

from ringtrade.dealings import ones_behind
from ringtrade.wishes import likes, things_in


def line_for(wishes, dealing):
    # One hand is enough, for the last one of any line is a line by itself.
    left_over = [thing for thing in range(things_in(wishes)) if thing not in dealing]
    for hand, had in enumerate(dealing):
        for thing in left_over:
            if likes(wishes, hand, thing, had):
                return ("line", (hand,), thing)
    return None


def envied(wishes, dealing, hand, others):
    return [other for other in others if likes(wishes, hand, dealing[other], dealing[hand])]


def hands_with_envy(wishes, dealing):
    # Who envies none of those left stands in no ring, so what stays has a ring, or is nothing.
    hands = []
    staying = list(range(len(wishes)))
    while len(staying) != len(hands):
        hands = staying
        staying = [hand for hand in hands if envied(wishes, dealing, hand, hands)]
    return hands


def ring_for(wishes, dealing):
    hands = hands_with_envy(wishes, dealing)
    if not hands:
        return None
    walk = []
    hand = hands[0]
    while hand not in walk:
        walk.append(hand)
        hand = envied(wishes, dealing, hand, hands)[0]
    # The walk may have come into the ring from outside of it.
    return ("ring", tuple(walk[walk.index(hand):]))


def betterment(wishes, dealing):
    line = line_for(wishes, dealing)
    return ring_for(wishes, dealing) if line is None else line


def bettered(wishes, dealing, way):
    hands = way[1]
    things = [dealing[hand] for hand in ones_behind(hands)]
    if way[0] == "line":
        things[-1] = way[2]
    told = list(dealing)
    for hand, thing in zip(hands, things):
        told[hand] = thing
    return tuple(told)
