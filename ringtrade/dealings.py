"""What the ways of dealing share: the best thing left, its owner, who stands behind whom, what was got."""

from ringtrade.wishes import are_unlike, things_in


def best_left(row, things):
    return [thing for thing in row if thing in things][0]


def owner_left(owns, line, thing):
    # The line holds only hands that are left, so what a hand left behind counts as free.
    for hand in line:
        if owns[hand] == thing:
            return hand
    return None


def ones_behind(hands):
    # Behind the last one of a ring stands the first.
    return hands[1:] + hands[:1]


def got_in(rings):
    got = {}
    for ring in rings:
        for hand, thing in ring:
            got[hand] = thing
    return got


def dealing_of(got):
    return tuple([got[hand] for hand in range(len(got))])


def is_dealing(wishes, told):
    return len(told) == len(wishes) and are_unlike(told, things_in(wishes))
