"""Betterments of a dealing, rings and lines of hands, and dealings bettered by them."""

from ringtrade.dealings import ones_behind
from ringtrade.steps import ring_of_steps
from ringtrade.wishes import likes, things_in


def line_for(wishes, dealing):
    # One hand is enough, for the last one of any line is a line by itself.
    left_over = [thing for thing in range(things_in(wishes)) if thing not in dealing]
    for hand, had in enumerate(dealing):
        for thing in left_over:
            if likes(wishes, hand, thing, had):
                return ("line", (hand,), thing)
    return None


def hands_envied(wishes, dealing, hand):
    return [other for other, thing in enumerate(dealing) if likes(wishes, hand, thing, dealing[hand])]


def ring_for(wishes, dealing):
    steps = {}
    for hand in range(len(wishes)):
        steps[hand] = hands_envied(wishes, dealing, hand)
    hands = ring_of_steps(steps)
    return None if hands is None else ("ring", tuple(hands))


def betterment(wishes, dealing):
    line = line_for(wishes, dealing)
    return ring_for(wishes, dealing) if line is None else line


def bettered(wishes, dealing, way):
    hands = way[1]
    things = [dealing[hand] for hand in ones_behind(hands)]
    if way[0] == "line":
        things[-1] = way[2]
    told = list(dealing)
    for hand, thing in zip(hands, things):
        told[hand] = thing
    return tuple(told)
