"""What several tests walk over: small wishes, owns, orders, dealings, and point 10 walked plainly."""

import copy
import random
from itertools import permutations, product


def all_wishes(hands, things):
    return list(product(permutations(range(things)), repeat=hands))


def all_owns(hands, things):
    choices = product([None] + list(range(things)), repeat=hands)
    return [owns for owns in choices if no_thing_twice(owns)]


def no_thing_twice(owns):
    owned = [thing for thing in owns if thing is not None]
    return len(owned) == len(set(owned))


def all_orders(hands):
    return [list(order) for order in permutations(range(hands))]


def all_dealings(hands, things):
    return list(permutations(range(things), hands))


def some_asked(many, seed):
    """Wishes, owns and orders of all sizes that are told, the same ones each time."""
    source = random.Random(seed)
    asked = []
    for turn in range(many):
        hands = turn % 7 + 1
        things = source.randint(hands, 8)
        wishes = tuple(tuple(source.sample(range(things), things)) for hand in range(hands))
        owned = source.sample(range(things), hands)
        owns = tuple(thing if source.randint(0, 3) else None for thing in owned)
        asked.append((wishes, owns, source.sample(range(hands), hands)))
    return asked


def like_no_less(wishes, dealing, other):
    """Whether each hand likes what other gives it no less than what dealing gives it."""
    places = zip(wishes, dealing, other)
    return all(row.index(second) <= row.index(first) for row, first, second in places)


def pointing(wishes, owns, order, hands, things):
    first = [hand for hand in order if hand in hands][0]
    owner = {owns[hand]: hand for hand in hands if owns[hand] is not None}
    steps = {("hand", hand): ("thing", min(things, key=wishes[hand].index)) for hand in hands}
    steps.update({("thing", thing): ("hand", owner.get(thing, first)) for thing in things})
    return steps


def walked_round(steps, start):
    """The places from start on until it comes again, or None where it never does."""
    places = [start]
    while steps[places[-1]] != start:
        places.append(steps[places[-1]])
        if len(places) > len(steps):
            return None
    return places


def plain_rings(steps, hands):
    rings = set()
    for hand in hands:
        places = walked_round(steps, ("hand", hand))
        if places is not None:
            numbers = [number for kind, number in places]
            pairs = list(zip(numbers[0::2], numbers[1::2]))
            turn = pairs.index(min(pairs))
            rings.add(tuple(pairs[turn:] + pairs[:turn]))
    return sorted(rings)


def plain_rounds(wishes, owns, order):
    hands = set(range(len(wishes)))
    things = set(range(len(wishes[0])))
    told = []
    while hands:
        rings = plain_rings(pointing(wishes, owns, order, hands, things), hands)
        told.append(rings)
        for ring in rings:
            hands -= {hand for hand, thing in ring}
            things -= {thing for hand, thing in ring}
    return told


def copies(thing):
    return copy.deepcopy(thing)
