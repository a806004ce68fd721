"""Point 16, of 3 what it says of orders, and the interface of ringtrade/orders.py."""

import unittest
from itertools import product

from ringtrade.bettering import betterment
from ringtrade.orders import by_order, order_behind
from ringtrade.rings import by_rings
from ringtrade.texts import rows_read
from tests import helper


def dealt(text, order=None):
    return by_order(rows_read(text)[0], order)


def order_of_dealing(text, dealing):
    return order_behind(rows_read(text)[0], dealing)


def plain_order_behind(wishes, dealing):
    """Point 16 word for word."""
    hands = set(range(len(wishes)))
    things = set(range(len(wishes[0])))
    order = []
    while hands:
        having = {hand for hand in hands if min(things, key=wishes[hand].index) == dealing[hand]}
        if not having:
            return None
        order.append(min(having))
        hands.remove(min(having))
        things.remove(dealing[min(having)])
    return order


class ByOrderTest(unittest.TestCase):
    def test_one_hand(self):
        self.assertEqual(dealt("A"), (0,))
        self.assertEqual(dealt("C A B"), (2,))
        self.assertEqual(dealt("C A B", [0]), (2,))

    def test_no_order_is_the_hands_as_they_are_counted(self):
        text = "A B C; A B C; A B C"
        self.assertEqual(dealt(text), (0, 1, 2))
        self.assertEqual(dealt(text, None), (0, 1, 2))
        self.assertEqual(dealt("B C A; B A C; B C A"), (1, 0, 2))

    def test_each_in_its_turn(self):
        text = "A B C; A B C; A B C"
        self.assertEqual(dealt(text, [2, 0, 1]), (1, 2, 0))
        self.assertEqual(dealt(text, [1, 2, 0]), (2, 0, 1))

    def test_more_things_than_hands(self):
        self.assertEqual(dealt("H A B C D E F G; H B A C D E F G"), (7, 1))
        self.assertEqual(dealt("H A B C D E F G; H B A C D E F G", [1, 0]), (0, 7))

    def test_all_small_wishes_and_orders(self):
        for hands, things in ((1, 1), (1, 2), (1, 3), (2, 2), (2, 3), (3, 3)):
            for order in helper.all_orders(hands):
                for wishes in helper.all_wishes(hands, things):
                    self.assertEqual(by_order(wishes, order), helper.plain_by_order(wishes, order))

    def test_greater_ones(self):
        for wishes, owns, order in helper.some_asked(700, 41):
            dealing = by_order(wishes, order)
            self.assertIsInstance(dealing, tuple)
            self.assertEqual(dealing, helper.plain_by_order(wishes, order))
            self.assertEqual(by_order(wishes), helper.plain_by_order(wishes, range(len(wishes))))

    def test_it_is_the_dealing_by_rings_where_all_is_free(self):
        for wishes, owns, order in helper.some_asked(140, 42):
            nothing = (None,) * len(wishes)
            self.assertEqual(by_order(wishes, order), by_rings(wishes, nothing, order))

    def test_lists_that_are_no_orders(self):
        wishes = rows_read("B A C D; A B C D; A B C D")[0]
        helper.refuses_what_is_no_order(self, lambda order: by_order(wishes, order))

    def test_the_list_handed_in_stays(self):
        for wishes, owns, order in helper.some_asked(70, 43):
            before = helper.copies((wishes, order))
            first = by_order(wishes, order)
            self.assertEqual((wishes, order), before)
            self.assertEqual(by_order(wishes, order), first)


class OrderBehindTest(unittest.TestCase):
    def test_one_hand(self):
        self.assertEqual(order_of_dealing("A", (0,)), [0])
        self.assertEqual(order_of_dealing("B A", (1,)), [0])
        self.assertIsNone(order_of_dealing("B A", (0,)))

    def test_the_order_told(self):
        text = "A B C; A B C; A B C"
        self.assertEqual(order_of_dealing(text, (0, 1, 2)), [0, 1, 2])
        self.assertEqual(order_of_dealing(text, (1, 2, 0)), [2, 0, 1])
        self.assertEqual(order_of_dealing(text, (2, 1, 0)), [2, 1, 0])

    def test_the_least_hand_goes_first(self):
        self.assertEqual(order_of_dealing("A B C; B A C; C A B", (0, 1, 2)), [0, 1, 2])

    def test_a_lesser_hand_goes_as_soon_as_it_can(self):
        # 1 and 2 both have their best; as soon as 1 went, 0 has the best that is left, ahead of 2.
        self.assertEqual(order_of_dealing("B A C; B A C; C A B", (0, 1, 2)), [1, 0, 2])

    def test_none_where_two_would_change(self):
        self.assertIsNone(order_of_dealing("B A; A B", (0, 1)))
        self.assertIsNone(order_of_dealing("B A C; A B C; C A B", (0, 1, 2)))

    def test_none_where_a_thing_that_is_left_over_is_liked_better(self):
        self.assertIsNone(order_of_dealing("A B C; A B C", (0, 2)))
        self.assertIsNone(order_of_dealing("A B C; A B C", (1, 2)))
        self.assertEqual(order_of_dealing("A B C; A B C", (1, 0)), [1, 0])

    def asks(self, wishes, dealing):
        order = order_behind(wishes, dealing)
        if order != plain_order_behind(wishes, dealing):
            self.fail(f"{wishes} {dealing}: {order}")
        if (order is None) != (betterment(wishes, dealing) is not None):
            self.fail(f"{wishes} {dealing}: {order}, {betterment(wishes, dealing)}")
        if order is not None:
            self.assertIsInstance(order, list)
            self.assertEqual(by_order(wishes, order), dealing)
        return order

    def test_all_small_wishes_and_dealings(self):
        for hands, things in ((1, 1), (1, 2), (1, 3), (2, 2), (2, 3), (3, 3)):
            orders = helper.all_orders(hands)
            for wishes in helper.all_wishes(hands, things):
                made = {helper.plain_by_order(wishes, order) for order in orders}
                for dealing in helper.all_dealings(hands, things):
                    order = self.asks(wishes, dealing)
                    self.assertEqual(order is not None, dealing in made)
                    self.assertEqual(order is not None, not helper.better_dealings(wishes, dealing))

    def test_three_hands_and_four_things(self):
        # Every eleventh of the wishes: all of them would run for minutes.
        for wishes, dealing in product(helper.all_wishes(3, 4)[::11], helper.all_dealings(3, 4)):
            self.asks(wishes, dealing)

    def test_greater_ones(self):
        for wishes, dealing in helper.some_dealings(700, 44):
            self.asks(wishes, dealing)
        for wishes, owns, dealing in helper.some_square(350, 45):
            self.asks(wishes, dealing)

    def test_dealings_that_come_of_an_order_and_by_rings(self):
        for wishes, owns, order in helper.some_asked(700, 46):
            for dealing in (by_order(wishes, order), by_rings(wishes, owns, order)):
                self.assertIsNotNone(self.asks(wishes, dealing))

    def test_the_order_told_is_a_new_list(self):
        for wishes, owns, order in helper.some_asked(70, 47):
            dealing = by_order(wishes, order)
            told = order_behind(wishes, dealing)
            before = list(told)
            told.append(7)
            told.reverse()
            self.assertEqual(order_behind(wishes, dealing), before)
            self.assertIsNot(order_behind(wishes, dealing), order_behind(wishes, dealing))

    def test_what_is_handed_in_stays_as_it_was(self):
        for wishes, dealing in helper.some_dealings(70, 48):
            before = helper.copies((wishes, dealing))
            order_behind(wishes, dealing)
            self.assertEqual((wishes, dealing), before)


if __name__ == "__main__":
    unittest.main()
