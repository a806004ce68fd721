"""Points 12, 13, of 3 what it says of asking, and the interface of ringtrade/asking.py."""

import unittest
from itertools import permutations, product

from ringtrade.asking import asked, by_asking
from ringtrade.rings import by_rings
from ringtrade.texts import rows_read
from tests import helper


def asked_of(text, order=None):
    wishes, owns = rows_read(text)
    return asked(wishes, owns, order)


def dealt(told, hands):
    got = {}
    for deed in told:
        if deed[0] == "takes":
            got[deed[1]] = deed[2]
        elif deed[0] == "ring":
            got.update(dict(deed[1]))
    return tuple(got[hand] for hand in range(hands))


class AskedTest(unittest.TestCase):
    def test_one_hand_takes_its_own_thing(self):
        self.assertEqual(asked_of("A*"), [("takes", 0, 0)])

    def test_one_hand_takes_a_free_thing(self):
        self.assertEqual(asked_of("A"), [("takes", 0, 0)])
        self.assertEqual(asked_of("C A* B"), [("takes", 0, 2)])

    def test_free_things_by_the_order(self):
        text = "A B C; A B C; A B C"
        self.assertEqual(asked_of(text), [("takes", 0, 0), ("takes", 1, 1), ("takes", 2, 2)])
        self.assertEqual(asked_of(text, [2, 0, 1]), [("takes", 2, 0), ("takes", 0, 1), ("takes", 1, 2)])

    def test_an_owner_that_becomes_an_asker_and_takes_its_own(self):
        told = [("ahead", 1, 1), ("takes", 1, 1), ("takes", 0, 0)]
        self.assertEqual(asked_of("B A*; B* A"), told)

    def test_an_owner_that_becomes_an_asker_and_takes_a_free_thing(self):
        # What it leaves behind is free for the asker ahead of it.
        told = [("ahead", 1, 1), ("takes", 1, 2), ("takes", 0, 1)]
        self.assertEqual(asked_of("B A C; C B* A"), told)

    def test_the_asker_ahead_asks_anew(self):
        # Hand 0 asked for B, which leaves with its owner, then for C, whose owner then asks.
        told = [("ahead", 1, 1), ("takes", 1, 1), ("ahead", 2, 2), ("takes", 2, 2), ("takes", 0, 0)]
        self.assertEqual(asked_of("B C A; B* A C; C* A B"), told)

    def test_a_ring_of_two_askers(self):
        told = [("ahead", 1, 1), ("ring", ((0, 1), (1, 0)))]
        self.assertEqual(asked_of("B A*; A B*"), told)

    def test_a_ring_begins_with_its_least_hand(self):
        self.assertEqual(asked_of("B A*; A B*", [1, 0]), [("ahead", 0, 0), ("ring", ((0, 1), (1, 0)))])
        text = "C A* B; A B* C; B A C*"
        ring = ("ring", ((0, 2), (2, 1), (1, 0)))
        self.assertEqual(asked_of(text, [0, 1, 2]), [("ahead", 2, 2), ("ahead", 1, 1), ring])
        self.assertEqual(asked_of(text, [1, 0, 2]), [("ahead", 0, 0), ("ahead", 2, 2), ring])
        self.assertEqual(asked_of(text, [2, 0, 1]), [("ahead", 1, 1), ("ahead", 0, 0), ring])

    def test_a_ring_with_one_ahead_of_it_in_the_row_of_askers(self):
        told = [("ahead", 1, 1), ("ahead", 2, 2), ("ring", ((1, 2), (2, 1))), ("takes", 0, 0)]
        self.assertEqual(asked_of("B C A*; C B* A; B C* A"), told)

    def test_a_ring_of_three_with_two_ahead_of_it(self):
        told = asked_of("B A* C D E; C A B* D E; E A B C* D; C A B D* E; D A B C E*")
        ring = ((2, 4), (4, 3), (3, 2))
        self.assertEqual(told, [
            ("ahead", 1, 1), ("ahead", 2, 2), ("ahead", 4, 4), ("ahead", 3, 3),
            ("ring", ring), ("ring", ((0, 1), (1, 0))),
        ])

    def test_a_thing_whose_owner_has_left(self):
        self.assertEqual(asked_of("B A*; A B"), [("takes", 0, 1), ("takes", 1, 0)])
        told = asked_of("D A* B C; A B C D; A B C D", [0, 2, 1])
        self.assertEqual(told, [("takes", 0, 3), ("takes", 2, 0), ("takes", 1, 1)])

    def test_a_thing_whose_owner_is_left_is_not_free(self):
        self.assertEqual(asked_of("B A*; A B", [1, 0]), [("ahead", 0, 0), ("takes", 0, 1), ("takes", 1, 0)])

    def test_more_things_than_hands(self):
        told = asked_of("H A* B C D E F G; A B* H C D E F G")
        self.assertEqual(told, [("takes", 0, 7), ("takes", 1, 0)])
        told = asked_of("H A* B C D E F G; A B* H C D E F G", [1, 0])
        self.assertEqual(told, [("ahead", 0, 0), ("takes", 0, 7), ("takes", 1, 0)])

    def test_seven_hands_in_one_ring(self):
        wishes = tuple(tuple((hand + 1 + k) % 7 for k in range(7)) for hand in range(7))
        owns = tuple(range(7))
        told = asked(wishes, owns)
        self.assertEqual(told[:-1], [("ahead", hand, hand) for hand in range(1, 7)])
        self.assertEqual(told[-1], ("ring", tuple((hand, (hand + 1) % 7) for hand in range(7))))
        self.assertEqual(by_asking(wishes, owns), (1, 2, 3, 4, 5, 6, 0))

    def test_no_order_is_the_hands_as_they_are_counted(self):
        for wishes, owns, order in helper.some_asked(70, 11):
            counted = list(range(len(wishes)))
            for function in (asked, by_asking):
                self.assertEqual(function(wishes, owns), function(wishes, owns, counted))
                self.assertEqual(function(wishes, owns, None), function(wishes, owns, counted))

    def test_kinds(self):
        told = asked_of("B C A*; C B* A; B C* A")
        self.assertIsInstance(told, list)
        for deed in told:
            self.assertIsInstance(deed, tuple)
        ring = told[2][1]
        self.assertIsInstance(ring, tuple)
        for pair in ring:
            self.assertIsInstance(pair, tuple)

    def test_lists_that_are_no_orders(self):
        wishes, owns = rows_read("B A* C; A B* C; A B C*")
        for function in (asked, by_asking):
            helper.refuses_what_is_no_order(self, lambda order: function(wishes, owns, order))

    def test_what_is_handed_in_stays_as_it_was(self):
        for wishes, owns, order in helper.some_asked(70, 12):
            before = helper.copies((wishes, owns, order))
            asked(wishes, owns, order)
            by_asking(wishes, owns, order)
            self.assertEqual((wishes, owns, order), before)

    def test_the_told_list_spoilt_and_asked_again(self):
        for wishes, owns, order in helper.some_asked(70, 13):
            told = asked(wishes, owns, order)
            before = list(told)
            told.append("spoilt")
            told.reverse()
            self.assertEqual(asked(wishes, owns, order), before)
            self.assertEqual(by_asking(wishes, owns, order), dealt(before, len(wishes)))


class PlainWalkTest(unittest.TestCase):
    def walk(self, wishes, owns, order):
        told = asked(wishes, owns, order)
        if told != helper.plain_asked(wishes, owns, order):
            self.fail(f"{wishes} {owns} {order}: {told}")
        dealing = by_asking(wishes, owns, order)
        self.assertIsInstance(dealing, tuple)
        self.assertEqual(dealing, dealt(told, len(wishes)))
        if dealing != by_rings(wishes, owns, order):
            self.fail(f"{wishes} {owns} {order}: {dealing} is not by rings")

    def test_all_small_wishes_owns_and_orders(self):
        for hands, things in ((1, 1), (1, 2), (1, 3), (2, 2), (2, 3), (3, 3)):
            for owns, order in product(helper.all_owns(hands, things), helper.all_orders(hands)):
                for wishes in helper.all_wishes(hands, things):
                    self.walk(wishes, owns, order)

    def test_three_hands_and_four_things(self):
        # Every seventh of the wishes and some owns and orders: all of them would run for minutes.
        for wishes in helper.all_wishes(3, 4)[::7]:
            for owns in ((None, None, None), (3, None, None), (0, None, 2), (1, 2, 0), (None, 3, 1)):
                for order in ([0, 1, 2], [2, 0, 1]):
                    self.walk(wishes, owns, order)

    def test_greater_ones(self):
        for wishes, owns, order in helper.some_asked(1400, 14):
            self.walk(wishes, owns, order)

    def test_greater_ones_where_all_is_owned(self):
        for wishes, owns, dealing in helper.some_square(700, 15):
            self.walk(wishes, owns, list(dealing))

    def test_each_order_of_five_hands(self):
        wishes, owns = rows_read("B C A* D E; C B* A D E; B D A C* E; A C B D* E; D C B A E")
        for order in permutations(range(5)):
            self.walk(wishes, owns, list(order))


if __name__ == "__main__":
    unittest.main()
