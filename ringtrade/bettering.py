"""Betterments of a dealing, rings and lines of hands, and dealings bettered by them."""

from ringtrade.dealings import ones_behind
from ringtrade.steps import ring_of_steps
from ringtrade.wishes import are_unlike, is_below, likes, things_in


def line_for(wishes, dealing):
    # One hand is enough, for the last one of any line is a line by itself.
    left_over = [thing for thing in range(things_in(wishes)) if thing not in dealing]
    for hand, had in enumerate(dealing):
        for thing in left_over:
            if likes(wishes, hand, thing, had):
                return ("line", (hand,), thing)
    return None


def hands_envied(wishes, dealing, hand):
    return [other for other, thing in enumerate(dealing) if likes(wishes, hand, thing, dealing[hand])]


def ring_for(wishes, dealing):
    steps = {}
    for hand in range(len(wishes)):
        steps[hand] = hands_envied(wishes, dealing, hand)
    hands = ring_of_steps(steps)
    return None if hands is None else ("ring", tuple(hands))


def betterment(wishes, dealing):
    line = line_for(wishes, dealing)
    return ring_for(wishes, dealing) if line is None else line


def things_along(dealing, way):
    things = [dealing[hand] for hand in ones_behind(way[1])]
    if way[0] == "line":
        things[-1] = way[2]
    return things


def bettered(wishes, dealing, way):
    told = list(dealing)
    for hand, thing in zip(way[1], things_along(dealing, way)):
        told[hand] = thing
    return tuple(told)


def is_left_over(wishes, dealing, thing):
    return is_below(thing, things_in(wishes)) and thing not in dealing


def has_form_of_way(way):
    return len(way) > 1 and (way[0], len(way)) in (("ring", 2), ("line", 3))


def is_betterment(wishes, dealing, way):
    if not has_form_of_way(way) or not way[1] or not are_unlike(way[1], len(wishes)):
        return False
    if way[0] == "line" and not is_left_over(wishes, dealing, way[2]):
        return False
    # A ring of one hand is none, for it would get the thing that it has.
    return all([likes(wishes, hand, thing, dealing[hand]) for hand, thing in zip(way[1], things_along(dealing, way))])
