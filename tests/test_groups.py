"""Point 14, of 3 what it says of groups that go, and the interface of ringtrade/groups.py."""

import unittest
from itertools import product

from ringtrade.errors import NotOwned
from ringtrade.groups import goers, goes
from ringtrade.rings import by_rings, rounds
from ringtrade.texts import rows_read
from tests import helper


def goes_from(text, dealing, ring):
    wishes, owns = rows_read(text)
    return goes(wishes, owns, dealing, ring)


def goers_from(text, dealing):
    wishes, owns = rows_read(text)
    return goers(wishes, owns, dealing)


class GoesTest(unittest.TestCase):
    def test_one_hand_alone(self):
        text = "A* B; A B*"
        self.assertIs(goes_from(text, (1, 0), ((0, 0),)), True)
        self.assertIs(goes_from(text, (1, 0), ((1, 1),)), False)
        self.assertIs(goes_from(text, (0, 1), ((0, 0),)), False)
        self.assertIs(goes_from("A*", (0,), ((0, 0),)), False)

    def test_a_ring_of_two(self):
        text = "B A*; A B*"
        self.assertIs(goes_from(text, (0, 1), ((0, 1), (1, 0))), True)
        self.assertIs(goes_from(text, (1, 0), ((0, 1), (1, 0))), False)

    def test_a_ring_of_three(self):
        text = "C A* B; A B* C; B A C*"
        ring = ((0, 2), (2, 1), (1, 0))
        self.assertIs(goes_from(text, (0, 1, 2), ring), True)
        self.assertIs(goes_from(text, (1, 0, 2), ring), True)
        self.assertIs(goes_from(text, (2, 0, 1), ring), False)

    def test_one_better_and_the_others_as_well_off(self):
        # Hand 0 has B already, hand 1 has C and likes A better.
        text = "B A* C; A B* C; A B C*"
        self.assertIs(goes_from(text, (1, 2, 0), ((0, 1), (1, 0))), True)
        self.assertIs(goes_from(text, (2, 0, 1), ((0, 1), (1, 0))), True)

    def test_a_group_of_which_none_does_better(self):
        text = "B A* C; A B* C; A B C*"
        self.assertIs(goes_from(text, (1, 0, 2), ((0, 1), (1, 0))), False)
        self.assertIs(goes_from(text, (1, 0, 2), ((2, 2),)), False)

    def test_one_better_and_one_worse(self):
        text = "B A* C; B* A C; A B C*"
        self.assertIs(goes_from(text, (0, 1, 2), ((0, 1), (1, 0))), False)
        self.assertIs(goes_from("B A*; B* A", (0, 1), ((0, 1), (1, 0))), False)

    def test_the_tuple_without_hands(self):
        for text, dealing in (("A*", (0,)), ("B A*; A B*", (0, 1)), ("B A*; A B*", (1, 0))):
            self.assertIs(goes_from(text, dealing, ()), False)

    def test_a_ring_that_does_not_begin_with_its_least_hand(self):
        self.assertIs(goes_from("B A*; A B*", (0, 1), ((1, 0), (0, 1))), False)
        text = "C A* B; A B* C; B A C*"
        self.assertIs(goes_from(text, (0, 1, 2), ((2, 1), (1, 0), (0, 2))), False)
        self.assertIs(goes_from(text, (0, 1, 2), ((1, 0), (0, 2), (2, 1))), False)

    def test_a_ring_whose_least_hand_is_not_hand_0(self):
        text = "A* B C; C B* A; B C* A"
        self.assertIs(goes_from(text, (0, 1, 2), ((1, 2), (2, 1))), True)
        self.assertIs(goes_from(text, (0, 1, 2), ((2, 1), (1, 2))), False)

    def test_a_hand_twice(self):
        text = "B A* C; A B* C; A B C*"
        self.assertIs(goes_from("A* B; A B*", (1, 0), ((0, 0), (0, 0))), False)
        self.assertIs(goes_from(text, (0, 1, 2), ((0, 1), (1, 0), (0, 0))), False)
        self.assertIs(goes_from(text, (0, 1, 2), ((0, 1), (1, 1), (1, 0))), False)
        self.assertIs(goes_from(text, (0, 2, 1), ((0, 1), (1, 0), (0, 2), (2, 0))), False)

    def test_a_ring_gone_round_twice(self):
        self.assertIs(goes_from("B A*; A B*", (0, 1), ((0, 1), (1, 0)) * 2), False)
        self.assertIs(goes_from("C A* B; A B* C; B A C*", (0, 1, 2), ((0, 2), (2, 1), (1, 0)) * 2), False)
        self.assertIs(goes_from("B A*; A B*", (0, 1), ((0, 1), (1, 0)) * 150), False)

    def test_things_that_are_not_the_next_ones_own(self):
        text = "B A*; A B*"
        self.assertIs(goes_from(text, (0, 1), ((0, 1),)), False)
        self.assertIs(goes_from(text, (0, 1), ((0, 0), (1, 1))), False)
        self.assertIs(goes_from(text, (0, 1), ((0, 1), (1, 1))), False)
        text = "B C A*; C A B*; A B C*"
        self.assertIs(goes_from(text, (0, 1, 2), ((0, 1), (1, 2), (2, 0))), True)
        self.assertIs(goes_from(text, (0, 1, 2), ((0, 1), (1, 2))), False)
        self.assertIs(goes_from(text, (0, 1, 2), ((0, 1), (2, 0), (1, 2))), False)

    def test_the_own_things_count_not_the_hands_numbers(self):
        text = "A B*; B A*"
        self.assertIs(goes_from(text, (1, 0), ((0, 0), (1, 1))), True)
        self.assertIs(goes_from(text, (1, 0), ((0, 1), (1, 0))), False)

    def test_numbers_below_0_and_beyond(self):
        text = "B A*; A B*"
        right = ((0, 1), (1, 0))
        self.assertIs(goes_from(text, (0, 1), right), True)
        for number in (-10 ** 59, -3, -2, -1, 2, 3, 7, 8, 300, 10 ** 59):
            for place, part in product(range(2), range(2)):
                ring = [list(pair) for pair in right]
                ring[place][part] = number
                with self.subTest(ring):
                    self.assertIs(goes_from(text, (0, 1), tuple(tuple(pair) for pair in ring)), False)
            for thing in (-1, 0, 1, number):
                self.assertIs(goes_from(text, (0, 1), ((number, thing),)), False)

    def test_hands_counted_from_the_end_are_none(self):
        self.assertIs(goes_from("B A*; A B*", (0, 1), ((-2, 1), (-1, 0))), False)
        self.assertIs(goes_from("B A*; A B*", (0, 1), ((-1, 0), (0, 1))), False)
        self.assertIs(goes_from("A* B; A B*", (1, 0), ((-2, 0),)), False)

    def test_a_truth_stands_for_no_hand_and_no_thing(self):
        text = "B A*; A B*"
        for ring in (((False, 1), (1, 0)), ((0, True), (1, 0)), ((0, 1), (True, 0)), ((0, 1), (1, False))):
            with self.subTest(ring):
                self.assertIs(goes_from(text, (0, 1), ring), False)
        self.assertIs(goes_from("A* B; A B*", (1, 0), ((False, 0),)), False)
        self.assertIs(goes_from("A* B; A B*", (1, 0), ((0, False),)), False)

    def test_any_ring_of_pairs_of_small_numbers(self):
        pairs = list(product(range(-1, 3), repeat=2))
        rings = [ring for many in range(3) for ring in product(pairs, repeat=many)]
        for wishes, owns, dealing in product(
            helper.all_wishes(2, 2), helper.all_owned(2), helper.all_dealings(2, 2)
        ):
            for ring in rings:
                self.asks(wishes, owns, dealing, ring)

    def test_any_ring_of_three_pairs_in_the_bounds(self):
        pairs = list(product(range(3), repeat=2))
        rings = [ring for many in range(4) for ring in product(pairs, repeat=many)]
        for wishes, owns, dealing in helper.some_square(70, 21, 3):
            if len(wishes) == 3:
                for ring in rings:
                    self.asks(wishes, owns, dealing, ring)

    def asks(self, wishes, owns, dealing, ring):
        told = goes(wishes, owns, dealing, ring)
        if told is not helper.plain_goes(wishes, owns, dealing, ring):
            self.fail(f"{wishes} {owns} {dealing} {ring}: {told}")

    def test_each_ring_of_owns_of_small_wishes(self):
        for hands in (1, 2, 3):
            for owns in helper.all_owned(hands):
                rings = helper.rings_of_owns(owns)
                for wishes, dealing in product(helper.all_wishes(hands, hands), helper.all_dealings(hands, hands)):
                    for ring in rings:
                        self.asks(wishes, owns, dealing, ring)

    def test_each_ring_of_owns_of_some_greater_wishes(self):
        for wishes, owns, dealing in helper.some_square(60, 22, 5):
            for ring in helper.rings_of_owns(owns):
                self.asks(wishes, owns, dealing, ring)

    def test_asked_again_and_what_is_handed_in_stays(self):
        for wishes, owns, dealing in helper.some_square(40, 23, 4):
            before = helper.copies((wishes, owns, dealing))
            for ring in helper.rings_of_owns(owns):
                first = goes(wishes, owns, dealing, ring)
                self.assertIs(goes(wishes, owns, dealing, ring), first)
            self.assertEqual(goers(wishes, owns, dealing), goers(wishes, owns, dealing))
            self.assertEqual((wishes, owns, dealing), before)


class GoersTest(unittest.TestCase):
    def test_none_of_the_dealing_by_rings(self):
        self.assertIsNone(goers_from("A*", (0,)))
        self.assertIsNone(goers_from("B A*; A B*", (1, 0)))
        self.assertIsNone(goers_from("C A* B; A B* C; B A C*", (2, 0, 1)))

    def test_one_hand_alone(self):
        self.assertEqual(goers_from("A* B; A B*", (1, 0)), ((0, 0),))

    def test_a_ring_of_three(self):
        self.assertEqual(goers_from("C A* B; A B* C; B A C*", (0, 1, 2)), ((0, 2), (2, 1), (1, 0)))

    def test_a_ring_that_one_of_its_hands_keeps(self):
        self.assertEqual(goers_from("B A* C; A B* C; A B C*", (1, 2, 0)), ((0, 1), (1, 0)))
        self.assertEqual(goers_from("B A* C; A B* C; A B C*", (2, 0, 1)), ((0, 1), (1, 0)))

    def test_the_first_ring_of_a_round_as_sorted(self):
        text = "D A* B C; C A B* D; B A C* D; A B C D*"
        self.assertEqual(goers_from(text, (0, 1, 2, 3)), ((0, 3), (3, 0)))
        self.assertEqual(goers_from(text, (3, 1, 2, 0)), ((1, 2), (2, 1)))

    def test_an_earlier_round_comes_ahead_of_a_lesser_hand(self):
        # By rings 1 and 2 change in the first round, 0 keeps A in the second and 3 its D in the third.
        text = "B A* C D; C B* A D; B C* A D; A D* B C"
        self.assertEqual(goers_from(text, (3, 0, 1, 2)), ((1, 2), (2, 1)))
        self.assertEqual(goers_from(text, (3, 2, 1, 0)), ((0, 0),))

    def test_it_is_a_tuple_of_tuples(self):
        ring = goers_from("B A*; A B*", (0, 1))
        self.assertIsInstance(ring, tuple)
        for pair in ring:
            self.assertIsInstance(pair, tuple)

    def asks(self, wishes, owns, dealing):
        told = goers(wishes, owns, dealing)
        rings = [ring for rings in rounds(wishes, owns) for ring in rings]
        broken = [ring for ring in rings if any(dealing[hand] != thing for hand, thing in ring)]
        if told != (broken[0] if broken else None):
            self.fail(f"{wishes} {owns} {dealing}: {told}")
        if (told is None) != (dealing == by_rings(wishes, owns)):
            self.fail(f"{wishes} {owns} {dealing}: {told}")
        if told is not None and not helper.plain_goes(wishes, owns, dealing, told):
            self.fail(f"{wishes} {owns} {dealing}: by {told} they don't go")
        if told is not None:
            self.assertIs(goes(wishes, owns, dealing, told), True)

    def test_all_small_dealings(self):
        for hands in (1, 2, 3):
            for owns, dealing in product(helper.all_owned(hands), helper.all_dealings(hands, hands)):
                for wishes in helper.all_wishes(hands, hands):
                    self.asks(wishes, owns, dealing)

    def test_some_greater_dealings(self):
        for wishes, owns, dealing in helper.some_square(700, 24):
            self.asks(wishes, owns, dealing)
            self.asks(wishes, owns, by_rings(wishes, owns))

    def test_dealings_that_differ_only_late(self):
        # Two hands of the dealing by rings change, so that the first broken ring may stand anywhere.
        for wishes, owns, dealing in helper.some_square(140, 25):
            for one in range(len(wishes)):
                for other in range(one):
                    swapped = list(by_rings(wishes, owns))
                    swapped[one], swapped[other] = swapped[other], swapped[one]
                    self.asks(wishes, owns, tuple(swapped))

    def test_no_group_goes_from_the_dealing_by_rings(self):
        for hands in (1, 2, 3):
            for owns in helper.all_owned(hands):
                rings = helper.rings_of_owns(owns)
                for wishes in helper.all_wishes(hands, hands):
                    dealing = by_rings(wishes, owns)
                    self.assertFalse(any(goes(wishes, owns, dealing, ring) for ring in rings))
        for wishes, owns, dealing in helper.some_square(60, 26, 5):
            dealing = by_rings(wishes, owns)
            self.assertFalse(any(goes(wishes, owns, dealing, ring) for ring in helper.rings_of_owns(owns)))


class NotOwnedTest(unittest.TestCase):
    def refuses(self, wishes, owns, hand):
        dealing = tuple(range(len(wishes)))
        asks = [lambda ring=ring: goes(wishes, owns, dealing, ring) for ring in ((), ((0, 0),), ((-1, 9),))]
        for ask in asks + [lambda: goers(wishes, owns, dealing)]:
            with self.assertRaises(NotOwned) as caught:
                ask()
            self.assertEqual(caught.exception.hand, hand)

    def refuses_text(self, text, hand):
        wishes, owns = rows_read(text)
        self.refuses(wishes, owns, hand)

    def test_a_hand_that_owns_nothing(self):
        self.refuses_text("A", 0)
        self.refuses_text("B A; A B*", 0)
        self.refuses_text("B A*; A B", 1)

    def test_the_least_one_is_told(self):
        self.refuses_text("B A*; A B", 1)
        self.refuses_text("A B C; A B C; A B C", 0)
        self.refuses_text("A* B C; A B C; A B C", 1)
        self.refuses_text("A B C; A* B C; A B C", 0)

    def test_more_things_than_hands(self):
        self.refuses_text("A* B", -1)
        self.refuses_text("A* B C; A B* C", -1)
        self.refuses_text("A B C D E F G H; A B C D E F G H*", -1)

    def test_more_things_come_ahead_of_a_hand_that_owns_nothing(self):
        self.refuses_text("A B", -1)
        self.refuses_text("A* B C; A B C", -1)
        self.refuses_text("A B C; A* B C", -1)

    def test_all_small_owns(self):
        for hands, things in ((1, 1), (1, 2), (2, 2), (2, 3), (3, 3), (3, 4)):
            wishes = helper.all_wishes(hands, things)[0]
            dealing = tuple(range(hands))
            for owns in helper.all_owns(hands, things):
                if things > hands:
                    self.refuses(wishes, owns, -1)
                elif None in owns:
                    self.refuses(wishes, owns, owns.index(None))
                else:
                    self.assertIs(goes(wishes, owns, dealing, ()), False)

    def test_seven_hands(self):
        wishes = (tuple(range(7)),) * 7
        for hand in range(7):
            owns = tuple(None if other == hand else other for other in range(7))
            self.refuses(wishes, owns, hand)
        self.refuses((tuple(range(8)),) * 7, tuple(range(7)), -1)

    def test_a_truth_is_no_thing_that_is_owned(self):
        self.refuses(((1, 0), (0, 1)), (True, 0), 0)
        self.refuses(((1, 0), (0, 1)), (1, False), 1)


if __name__ == "__main__":
    unittest.main()
