"""A desk that keeps wishes, owns and an order, and answers lines."""

from ringtrade.answers import deeds_text, order_text, rounds_text, shares_text, things_text
from ringtrade.asking import asked
from ringtrade.eating import eaten
from ringtrade.errors import NoDeed
from ringtrade.lines import dealing_in, hand_and_thing_in, hand_in, order_in, refuse_unless, text_in, words_in
from ringtrade.lots import lot
from ringtrade.orders import by_order, order_behind
from ringtrade.rings import by_rings, rounds
from ringtrade.texts import rows_read, rows_text


class Kept:
    def __init__(self, wishes, owns, order):
        self.wishes = wishes
        self.owns = owns
        self.order = order


def kept_of_text(text):
    read = rows_read(text)
    return Kept(read[0], read[1], None)


def after_rows(kept, words):
    return kept_of_text(text_in(words))


def with_own(kept, hand, own):
    # Whoever owned the thing ahead owns nothing from now on.
    owns = [None if other == own else other for other in kept.owns]
    owns[hand] = own
    return Kept(kept.wishes, tuple(owns), kept.order)


def after_own(kept, words):
    numbers = hand_and_thing_in(words, kept.wishes)
    return with_own(kept, numbers[0], numbers[1])


def after_none(kept, words):
    return with_own(kept, hand_in(words, kept.wishes), None)


def after_order(kept, words):
    return Kept(kept.wishes, kept.owns, order_in(words, kept.wishes))


def answer_rings(kept, words):
    refuse_unless(not words)
    return rounds_text(rounds(kept.wishes, kept.owns, kept.order))


def answer_asks(kept, words):
    refuse_unless(not words)
    return deeds_text(asked(kept.wishes, kept.owns, kept.order))


def answer_deal(kept, words):
    refuse_unless(not words)
    return things_text(by_rings(kept.wishes, kept.owns, kept.order))


def answer_by(kept, words):
    return things_text(by_order(kept.wishes, order_in(words, kept.wishes)))


def answer_of(kept, words):
    return order_text(order_behind(kept.wishes, dealing_in(words, kept.wishes)))


def answer_lot(kept, words):
    hand = hand_in(words, kept.wishes)
    return shares_text(lot(kept.wishes)[hand])


def answer_eat(kept, words):
    hand = hand_in(words, kept.wishes)
    return shares_text(eaten(kept.wishes)[0][hand])


CHANGES = {"rows": after_rows, "own": after_own, "none": after_none, "order": after_order}
QUESTIONS = {
    "rings": answer_rings,
    "asks": answer_asks,
    "deal": answer_deal,
    "by": answer_by,
    "of": answer_of,
    "lot": answer_lot,
    "eat": answer_eat,
}


class Desk:
    def __init__(self):
        self.kept = kept_of_text("A*")
        self.past = []

    def tell(self, line):
        words = words_in(line)
        first = words[0]
        if first in QUESTIONS:
            return QUESTIONS[first](self.kept, words[1:])
        if first in CHANGES:
            changed = CHANGES[first](self.kept, words[1:])
            self.past.append(self.kept)
            self.kept = changed
        else:
            refuse_unless(words == ["undo"])
            self.undo()
        return rows_text(self.kept.wishes, self.kept.owns)

    def undo(self):
        if not self.past:
            raise NoDeed("there is nothing left to undo")
        self.kept = self.past.pop()
