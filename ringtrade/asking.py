"""Hands that ask one by one, the owner of what is asked for asking next."""

from ringtrade.dealings import best_left, dealing_of, got_in, ones_behind, owner_left
from ringtrade.wishes import order_of, things_in


def ring_of_askers(owns, askers):
    turn = askers.index(min(askers))
    hands = askers[turn:] + askers[:turn]
    return tuple([(hand, owns[behind]) for hand, behind in zip(hands, ones_behind(hands))])


def next_deed(wishes, owns, line, things, askers):
    hand = askers[-1]
    thing = best_left(wishes[hand], things)
    owner = owner_left(owns, line, thing)
    if owner is None or owner == hand:
        return ("takes", hand, thing)
    if owner not in askers:
        return ("ahead", owner, thing)
    return ("ring", ring_of_askers(owns, askers[askers.index(owner):]))


def pairs_of(deed):
    # Who gets what by it: nobody anything where an owner only becomes an asker.
    if deed[0] == "ahead":
        return ()
    return deed[1] if deed[0] == "ring" else (deed[1:],)


def asked(wishes, owns, order=None):
    line = order_of(wishes, order)
    things = list(range(things_in(wishes)))
    askers = []
    told = []
    while line:
        if not askers:
            askers = [line[0]]
        deed = next_deed(wishes, owns, line, things, askers)
        told.append(deed)
        if deed[0] == "ahead":
            askers.append(deed[1])
        got = got_in([pairs_of(deed)])
        taken = list(got.values())
        line = [hand for hand in line if hand not in got]
        askers = [hand for hand in askers if hand not in got]
        things = [thing for thing in things if thing not in taken]
    return told


def by_asking(wishes, owns, order=None):
    return dealing_of(got_in([pairs_of(deed) for deed in asked(wishes, owns, order)]))
