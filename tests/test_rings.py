"""Points 9, 10, 11, of 3 what it says of rings, and the interface of ringtrade/rings.py."""

import unittest
from itertools import permutations, product

from ringtrade.rings import by_rings, rounds
from ringtrade.texts import rows_read
from ringtrade.wishes import likes
from tests import helper


def rounds_of(text, order=None):
    wishes, owns = rows_read(text)
    return rounds(wishes, owns, order)


def dealt(told, hands):
    got = dict(pair for rings in told for ring in rings for pair in ring)
    return tuple(got[hand] for hand in range(hands))


class RoundsTest(unittest.TestCase):
    def test_one_hand_with_its_own_thing(self):
        self.assertEqual(rounds_of("A*"), [[((0, 0),)]])

    def test_one_hand_with_a_free_thing(self):
        self.assertEqual(rounds_of("A"), [[((0, 0),)]])
        self.assertEqual(rounds_of("C A* B"), [[((0, 2),)]])

    def test_a_ring_of_two(self):
        self.assertEqual(rounds_of("B A*; A B*"), [[((0, 1), (1, 0))]])

    def test_a_ring_of_three_goes_by_the_things_owners(self):
        self.assertEqual(rounds_of("C A* B; A B* C; B A C*"), [[((0, 2), (2, 1), (1, 0))]])
        self.assertEqual(rounds_of("B A* C; C A B*; A B C*"), [[((0, 1), (1, 2), (2, 0))]])

    def test_a_ring_begins_with_the_least_hand_whatever_the_order(self):
        for order in permutations(range(3)):
            told = rounds_of("C A* B; A B* C; B A C*", list(order))
            self.assertEqual(told, [[((0, 2), (2, 1), (1, 0))]])

    def test_several_rings_in_one_round_are_sorted(self):
        text = "D A* B C; C A B* D; B A C* D; A B C D*"
        for order in (None, [3, 2, 1, 0], [2, 0, 3, 1]):
            self.assertEqual(rounds_of(text, order), [[((0, 3), (3, 0)), ((1, 2), (2, 1))]])

    def test_rings_of_one_in_one_round_are_sorted(self):
        for order in permutations(range(3)):
            told = rounds_of("A* B C; B* A C; C* A B", list(order))
            self.assertEqual(told, [[((0, 0),), ((1, 1),), ((2, 2),)]])

    def test_several_rounds(self):
        told = rounds_of("B A* C; A B* C; A B C*")
        self.assertEqual(told, [[((0, 1), (1, 0))], [((2, 2),)]])
        told = rounds_of("A* B C; A B* C; A B C*")
        self.assertEqual(told, [[((0, 0),)], [((1, 1),)], [((2, 2),)]])

    def test_free_things_by_the_order(self):
        text = "A B C; A B C; A B C"
        self.assertEqual(rounds_of(text), [[((0, 0),)], [((1, 1),)], [((2, 2),)]])
        self.assertEqual(rounds_of(text, [2, 0, 1]), [[((2, 0),)], [((0, 1),)], [((1, 2),)]])

    def test_only_the_first_in_the_order_takes_a_free_thing(self):
        self.assertEqual(rounds_of("A B; B A"), [[((0, 0),)], [((1, 1),)]])
        self.assertEqual(rounds_of("A B; B A", [1, 0]), [[((1, 1),)], [((0, 0),)]])

    def test_a_ring_through_a_free_thing(self):
        self.assertEqual(rounds_of("B A*; A B", [1, 0]), [[((0, 1), (1, 0))]])

    def test_a_thing_becomes_free_when_its_owner_has_left(self):
        self.assertEqual(rounds_of("B A*; A B", [0, 1]), [[((0, 1),)], [((1, 0),)]])
        text = "D A* B C; A B C D; A B C D"
        self.assertEqual(rounds_of(text, [0, 1, 2]), [[((0, 3),)], [((1, 0),)], [((2, 1),)]])
        self.assertEqual(rounds_of(text, [0, 2, 1]), [[((0, 3),)], [((2, 0),)], [((1, 1),)]])

    def test_more_things_than_hands(self):
        self.assertEqual(rounds_of("H A* B C D E F G; H B* A C D E F G"), [[((0, 7),)], [((1, 1),)]])

    def test_kinds(self):
        told = rounds_of("B A* C; A B* C; A B C*")
        self.assertIsInstance(told, list)
        for rings in told:
            self.assertIsInstance(rings, list)
            for ring in rings:
                self.assertIsInstance(ring, tuple)
                for pair in ring:
                    self.assertIsInstance(pair, tuple)

    def test_lists_that_are_no_orders(self):
        wishes, owns = rows_read("B A* C; A B* C; A B C*")
        for function in (rounds, by_rings):
            helper.refuses_what_is_no_order(self, lambda order: function(wishes, owns, order))

    def test_what_is_handed_in_stays_as_it_was(self):
        for wishes, owns, order in helper.some_asked(35, 3):
            before = helper.copies((wishes, owns, order))
            rounds(wishes, owns, order)
            by_rings(wishes, owns, order)
            self.assertEqual((wishes, owns, order), before)

    def test_told_lists_spoilt_and_asked_again(self):
        for wishes, owns, order in helper.some_asked(35, 4):
            told = rounds(wishes, owns, order)
            before = helper.copies(told)
            for rings in told:
                rings.append("spoilt")
            told.clear()
            self.assertEqual(rounds(wishes, owns, order), before)
            self.assertEqual(by_rings(wishes, owns, order), dealt(before, len(wishes)))

    def test_lists_of_one_answer_are_unlike_ones(self):
        told = rounds_of("A* B C; A B* C; A B C*")
        told[0].clear()
        self.assertEqual(told[1:], [[((1, 1),)], [((2, 2),)]])


class PlainWalkTest(unittest.TestCase):
    def walk(self, wishes, owns, order):
        told = rounds(wishes, owns, order)
        if told != helper.plain_rounds(wishes, owns, order):
            self.fail(f"{wishes} {owns} {order}: {told}")
        self.assertEqual(by_rings(wishes, owns, order), dealt(told, len(wishes)))

    def test_all_small_wishes_owns_and_orders(self):
        for hands, things in ((1, 1), (1, 2), (1, 3), (2, 2), (2, 3), (3, 3)):
            asked = product(
                helper.all_wishes(hands, things), helper.all_owns(hands, things), helper.all_orders(hands)
            )
            for wishes, owns, order in asked:
                self.walk(wishes, owns, order)

    def test_three_hands_and_four_things(self):
        # Every seventh of the wishes and some owns and orders: all of them would run for minutes.
        for wishes in helper.all_wishes(3, 4)[::7]:
            for owns in ((None, None, None), (3, None, None), (0, None, 2), (1, 2, 0), (None, 3, 1)):
                for order in ([0, 1, 2], [2, 0, 1]):
                    self.walk(wishes, owns, order)

    def test_greater_ones(self):
        for wishes, owns, order in helper.some_asked(700, 5):
            self.walk(wishes, owns, order)

    def test_no_order_is_the_hands_as_they_are_counted(self):
        for wishes, owns, order in helper.some_asked(140, 6):
            counted = list(range(len(wishes)))
            self.assertEqual(rounds(wishes, owns), helper.plain_rounds(wishes, owns, counted))
            self.assertEqual(by_rings(wishes, owns), by_rings(wishes, owns, counted))
            self.assertEqual(by_rings(wishes, owns, None), by_rings(wishes, owns, counted))


class PromiseTest(unittest.TestCase):
    """What point 3 says of the dealing by rings, whoever owns what and whatever the order."""

    def sizes(self):
        for hands, things in ((1, 1), (1, 2), (2, 2), (2, 3), (3, 3)):
            for owns in helper.all_owns(hands, things):
                for order in helper.all_orders(hands):
                    yield hands, things, owns, order
        for owns in ((None, None, None), (3, None, None), (0, 1, 2)):
            yield 3, 4, owns, [1, 2, 0]

    def test_a_dealing_is_a_tuple_with_no_thing_for_two(self):
        for wishes, owns, order in helper.some_asked(140, 7):
            dealing = by_rings(wishes, owns, order)
            self.assertIsInstance(dealing, tuple)
            self.assertEqual(len(dealing), len(wishes))
            self.assertEqual(len(set(dealing)), len(wishes))

    def test_nobody_ends_with_less_than_the_own_thing(self):
        small = [
            (wishes, owns, order)
            for hands, things, owns, order in self.sizes()
            for wishes in helper.all_wishes(hands, things)
        ]
        for wishes, owns, order in small + helper.some_asked(700, 9):
            dealing = by_rings(wishes, owns, order)
            for hand, own in enumerate(owns):
                if own is not None:
                    self.assertFalse(likes(wishes, hand, own, dealing[hand]))

    def test_the_dealing_cannot_be_bettered(self):
        for hands, things in ((1, 1), (1, 2), (2, 2), (2, 3), (3, 3)):
            for wishes in helper.all_wishes(hands, things):
                reached = {
                    by_rings(wishes, owns, order)
                    for owns in helper.all_owns(hands, things)
                    for order in helper.all_orders(hands)
                }
                for dealing in reached:
                    self.cannot_be_bettered(wishes, dealing)

    def test_greater_dealings_cannot_be_bettered(self):
        for wishes, owns, order in helper.some_asked(56, 10):
            if len(wishes) < 6:
                self.cannot_be_bettered(wishes, by_rings(wishes, owns, order))

    def cannot_be_bettered(self, wishes, dealing):
        for other in helper.all_dealings(len(wishes), len(wishes[0])):
            if other != dealing and helper.like_no_less(wishes, dealing, other):
                self.fail(f"{wishes}: {dealing} is bettered by {other}")

    def test_nobody_gets_a_better_thing_by_another_row(self):
        for hands, things, owns, order in self.sizes():
            dealings = {
                wishes: by_rings(wishes, owns, order) for wishes in helper.all_wishes(hands, things)
            }
            for wishes, dealing in dealings.items():
                for hand in range(hands):
                    self.gains_nothing(wishes, hand, dealing, dealings)

    def gains_nothing(self, wishes, hand, dealing, dealings):
        for row in permutations(range(len(wishes[0]))):
            other = dealings[wishes[:hand] + (row,) + wishes[hand + 1:]]
            if wishes[hand].index(other[hand]) < wishes[hand].index(dealing[hand]):
                self.fail(f"{wishes}: hand {hand} gains by {row}")


if __name__ == "__main__":
    unittest.main()
