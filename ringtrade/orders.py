"""The dealing by an order alone, and the order behind a dealing."""

from ringtrade.dealings import best_left, dealing_of
from ringtrade.wishes import order_of, things_in


def by_order(wishes, order=None):
    things = list(range(things_in(wishes)))
    got = {}
    for hand in order_of(wishes, order):
        got[hand] = best_left(wishes[hand], things)
        things.remove(got[hand])
    return dealing_of(got)


def order_behind(wishes, dealing):
    hands = list(range(len(wishes)))
    things = list(range(things_in(wishes)))
    order = []
    while hands:
        served = [hand for hand in hands if best_left(wishes[hand], things) == dealing[hand]]
        if not served:
            return None
        order.append(served[0])
        hands.remove(served[0])
        things.remove(dealing[served[0]])
    return order
