"""Rules, which tell shares of wishes, and some of them a sure dealing, too."""

from ringtrade.copies import copied
from ringtrade.eating import eaten
from ringtrade.lots import lot, shares_in
from ringtrade.orders import by_order
from ringtrade.rings import by_rings
from ringtrade.wishes import things_in


class Rule:
    # Here stands what several rules have in common: one without a sure dealing tells its shares by itself.
    def shares(self, wishes):
        return shares_in([self.sure(wishes)], things_in(wishes))

    def sure(self, wishes):
        return None


class ByRings(Rule):
    def __init__(self, owns, order=None):
        self.owns = copied(owns)
        self.order = copied(order)

    def sure(self, wishes):
        return by_rings(wishes, self.owns, self.order)


class ByOrder(Rule):
    def __init__(self, order=None):
        self.order = copied(order)

    def sure(self, wishes):
        return by_order(wishes, self.order)


class ByLot(Rule):
    def shares(self, wishes):
        return lot(wishes)


class ByEating(Rule):
    def shares(self, wishes):
        return eaten(wishes)[0]
