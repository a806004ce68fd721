"""Groups of hands that would rather go from a dealing with what they own."""

from ringtrade.dealings import ones_behind
from ringtrade.errors import NotOwned
from ringtrade.rings import rounds
from ringtrade.wishes import are_unlike, is_below, is_square, likes


def refuse_unless_all_owned(wishes, owns):
    if not is_square(wishes):
        raise NotOwned(-1)
    for hand, own in enumerate(owns):
        # A truth is no thing, so it is owning nothing as None is.
        if not is_below(own, len(wishes)):
            raise NotOwned(hand)


def is_ring_of_owns(owns, ring):
    hands = [hand for hand, thing in ring]
    things = [thing for hand, thing in ring]
    # The things are asked too, for a truth is equal to a thing and stands for none.
    if not are_unlike(hands, len(owns)) or not are_unlike(things, len(owns)):
        return False
    if not hands or hands[0] != min(hands):
        return False
    return things == [owns[hand] for hand in ones_behind(hands)]


def goes(wishes, owns, dealing, ring):
    refuse_unless_all_owned(wishes, owns)
    if not is_ring_of_owns(owns, ring):
        return False
    better = any([likes(wishes, hand, thing, dealing[hand]) for hand, thing in ring])
    worse = any([likes(wishes, hand, dealing[hand], thing) for hand, thing in ring])
    return better and not worse


def goers(wishes, owns, dealing):
    refuse_unless_all_owned(wishes, owns)
    for rings in rounds(wishes, owns):
        for ring in rings:
            if any([dealing[hand] != thing for hand, thing in ring]):
                return ring
    return None
