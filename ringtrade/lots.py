"""Shares by lot: over all orders, and over all ways to own one thing each, dealt by rings."""

from ringtrade.errors import TooMany
from ringtrade.fractions import fraction
from ringtrade.orders import by_order
from ringtrade.rings import by_rings
from ringtrade.wishes import refuse_unless_square, things_in

MOST_HANDS_IN_LOTS = 5


def refuse_too_many_for_lots(wishes):
    if len(wishes) > MOST_HANDS_IN_LOTS:
        raise TooMany("there must be at most five hands")


def all_orders(many):
    orders = [[]]
    for number in range(many):
        longer = []
        for order in orders:
            for place in range(number + 1):
                longer.append(order[:place] + [number] + order[place:])
        orders = longer
    return orders


def shares_in(dealings, things):
    table = []
    for hand in range(len(dealings[0])):
        got = [dealing[hand] for dealing in dealings]
        table.append(tuple([fraction(got.count(thing), len(dealings)) for thing in range(things)]))
    return tuple(table)


def lot(wishes):
    refuse_too_many_for_lots(wishes)
    dealings = [by_order(wishes, order) for order in all_orders(len(wishes))]
    return shares_in(dealings, things_in(wishes))


def lot_of_ownings(wishes):
    refuse_unless_square(wishes)
    refuse_too_many_for_lots(wishes)
    # Where each hand owns one of as many things, the owned things stand in some order of all of them.
    dealings = [by_rings(wishes, tuple(things)) for things in all_orders(len(wishes))]
    return shares_in(dealings, things_in(wishes))
