"""Wishes, owns and orders: how they are made of lists, what is refused, and what wishes tell."""

from ringtrade.errors import NoOrder, NoOwn, NoRow, NotSquare, TooMany

MOST_HANDS = 7
MOST_THINGS = 8


def is_whole(value):
    # For Python a truth is an int; here it stands for no number.
    return isinstance(value, int) and not isinstance(value, bool)


def is_below(value, bound):
    return is_whole(value) and 0 <= value < bound


def first_wrong(numbers, bound):
    # Told is the length where every place holds a number below the bound that is new there.
    ahead = {}
    for place, number in enumerate(numbers):
        if not is_below(number, bound) or number in ahead:
            return place
        ahead[number] = True
    return len(numbers)


def are_unlike(numbers, bound):
    return first_wrong(numbers, bound) == len(numbers)


def has_each_once(numbers, bound):
    return len(numbers) == bound and are_unlike(numbers, bound)


def refuse_too_many_rows(rows):
    if len(rows) < 1 or len(rows) > MOST_HANDS:
        raise TooMany("there must be from one to seven rows")


def wishes_of(rows):
    refuse_too_many_rows(rows)
    things = len(rows[0])
    if things < len(rows) or things > MOST_THINGS:
        raise TooMany("there must be as many things as hands or more, and at most eight")
    for hand, row in enumerate(rows):
        if not has_each_once(row, things):
            raise NoRow(hand)
    return tuple([tuple(row) for row in rows])


def things_in(wishes):
    return len(wishes[0])


def is_square(wishes):
    return things_in(wishes) == len(wishes)


def refuse_unless_square(wishes):
    if not is_square(wishes):
        raise NotSquare("there must be as many things as hands")


def owns_of(wishes, things):
    if len(things) != len(wishes):
        raise NoOwn(len(wishes))
    ahead = {}
    for hand, thing in enumerate(things):
        if thing is not None:
            if not is_below(thing, things_in(wishes)) or thing in ahead:
                raise NoOwn(hand)
            ahead[thing] = True
    return tuple(things)


def order_of(wishes, order=None):
    if order is None:
        return list(range(len(wishes)))
    if not has_each_once(order, len(wishes)):
        raise NoOrder(first_wrong(order, len(wishes)))
    return list(order)


def likes(wishes, hand, one, other):
    row = wishes[hand]
    return row.index(one) < row.index(other)
