"""Papers, each of which shows something of a dealing or of a table of shares, or does not."""

from ringtrade.bettering import is_betterment
from ringtrade.copies import copied
from ringtrade.dealings import is_dealing
from ringtrade.errors import NoOrder
from ringtrade.groups import goes
from ringtrade.orders import by_order
from ringtrade.parting import are_parts, mixed
from ringtrade.tables import are_heights, can_be_handed, is_share_ring, is_table
from ringtrade.wishes import has_each_once, is_square


class Paper:
    pass


class Goes(Paper):
    def __init__(self, owns, ring):
        self.owns = copied(owns)
        self.ring = copied(ring)

    def shows(self, wishes, told):
        all_owned = is_square(wishes) and has_each_once(self.owns, len(wishes))
        return all_owned and is_dealing(wishes, told) and goes(wishes, self.owns, told, self.ring)


class Ordered(Paper):
    def __init__(self, order):
        self.order = copied(order)

    def shows(self, wishes, told):
        try:
            return is_dealing(wishes, told) and by_order(wishes, self.order) == told
        except NoOrder:
            return False


class Betters(Paper):
    def __init__(self, way):
        self.way = copied(way)

    def shows(self, wishes, told):
        return is_dealing(wishes, told) and is_betterment(wishes, told, self.way)


class Rising(Paper):
    def __init__(self, heights):
        self.heights = copied(heights)

    def shows(self, wishes, told):
        return is_table(wishes, told) and are_heights(wishes, told, self.heights)


class Handing(Paper):
    def __init__(self, ring, part):
        self.ring = copied(ring)
        self.part = copied(part)

    def shows(self, wishes, told):
        if not is_table(wishes, told) or not is_share_ring(wishes, told, self.ring):
            return False
        return can_be_handed(told, self.ring, self.part)


class Parted(Paper):
    def __init__(self, parts):
        self.parts = copied(parts)

    def shows(self, wishes, told):
        return is_table(wishes, told) and are_parts(self.parts, len(told)) and mixed(self.parts) == told
