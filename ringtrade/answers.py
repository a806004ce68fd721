"""What a desk answers: rounds, deeds, dealings, orders and shares as texts."""

from ringtrade.texts import LETTERS


def things_text(things):
    return " ".join([LETTERS[thing] for thing in things])


def pair_text(hand, thing):
    letter = LETTERS[thing]
    return f"{hand} {letter}"


def ring_text(ring):
    return " ".join([pair_text(hand, thing) for hand, thing in ring])


def round_text(rings):
    return "; ".join([ring_text(ring) for ring in rings])


def rounds_text(told):
    return " | ".join([round_text(rings) for rings in told])


def deed_text(deed):
    # All but a ring tell one hand and one thing, as a ring of one hand would.
    ring = deed[1] if deed[0] == "ring" else (deed[1:],)
    return deed[0] + " " + ring_text(ring)


def deeds_text(deeds):
    return "; ".join([deed_text(deed) for deed in deeds])


def order_text(order):
    return "better" if order is None else " ".join(["order"] + [str(hand) for hand in order])


def share_text(top, bottom):
    return f"{top}" if bottom == 1 else f"{top}/{bottom}"


def shares_text(shares):
    return " ".join([share_text(top, bottom) for top, bottom in shares])
