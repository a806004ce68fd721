"""Points 2, 4, 5, 6, 7 and the interface of ringtrade/wishes.py."""

import unittest
from itertools import permutations, product

from ringtrade.errors import NoOrder, NoOwn, NoRow, TooMany
from ringtrade.wishes import likes, order_of, owns_of, things_in, wishes_of
from tests.helper import all_owns, all_wishes, copies

NO_THINGS = (-1, 3, 10 ** 59, True, False, None, "A", "0", 1.0, [1], (1,))


def identity(count):
    return list(range(count))


class WishesOfTest(unittest.TestCase):
    def refuses_row(self, rows, hand):
        with self.assertRaises(NoRow) as caught:
            wishes_of(rows)
        self.assertEqual(caught.exception.hand, hand)

    def test_rows_as_lists_and_as_tuples(self):
        told = ((1, 0), (0, 1))
        for rows in ([[1, 0], [0, 1]], [(1, 0), (0, 1)], [[1, 0], (0, 1)]):
            with self.subTest(rows):
                self.assertEqual(wishes_of(rows), told)
                self.assertIsInstance(wishes_of(rows), tuple)
                for row in wishes_of(rows):
                    self.assertIsInstance(row, tuple)

    def test_every_size_that_is_told(self):
        for hands in range(1, 8):
            for things in range(hands, 9):
                with self.subTest(hands=hands, things=things):
                    rows = [identity(things)[::-1] for hand in range(hands)]
                    self.assertEqual(wishes_of(rows), tuple(tuple(row) for row in rows))

    def test_all_small_rows_are_taken_just_where_each_thing_stands_once(self):
        for rows in product(product(range(-1, 3), repeat=2), repeat=2):
            wrong = [hand for hand in (0, 1) if sorted(rows[hand]) != [0, 1]]
            with self.subTest(rows):
                if wrong:
                    self.refuses_row(list(rows), wrong[0])
                else:
                    self.assertEqual(wishes_of(list(rows)), rows)

    def test_what_was_told_may_be_handed_in_again(self):
        wishes = wishes_of([[1, 0, 2], [2, 0, 1]])
        self.assertEqual(wishes_of(list(wishes)), wishes)

    def test_no_row(self):
        self.assertRaises(TooMany, wishes_of, [])

    def test_seven_rows_and_eight(self):
        self.assertEqual(len(wishes_of([identity(8)] * 7)), 7)
        self.assertRaises(TooMany, wishes_of, [identity(8)] * 8)
        self.assertRaises(TooMany, wishes_of, [identity(8)] * 300)

    def test_first_row_too_short(self):
        for rows in ([[]], [[0], [0, 1]], [[0, 1], [0, 1, 2], [0, 1, 2]]):
            with self.subTest(rows):
                self.assertRaises(TooMany, wishes_of, rows)

    def test_first_row_too_long(self):
        self.assertEqual(wishes_of([identity(8)]), (tuple(range(8)),))
        self.assertRaises(TooMany, wishes_of, [identity(9)])
        self.assertRaises(TooMany, wishes_of, [identity(300)])

    def test_first_row_is_counted_with_repeats(self):
        self.refuses_row([[0, 0], [0, 1]], 0)
        self.assertRaises(TooMany, wishes_of, [[0] * 9])

    def test_too_many_comes_ahead_of_no_row(self):
        self.assertRaises(TooMany, wishes_of, [[None]] * 8)
        self.assertRaises(TooMany, wishes_of, [[None], [0, 1]])
        self.assertRaises(TooMany, wishes_of, [["A"] * 9])

    def test_a_row_that_is_short_or_long(self):
        self.refuses_row([[0, 1], [0]], 1)
        self.refuses_row([[0, 1], []], 1)
        self.refuses_row([[0, 1], [0, 1, 2]], 1)
        self.refuses_row([[0, 1], [1, 0, 0]], 1)
        self.refuses_row([[0, 1, 2], [0, 1]], 1)

    def test_a_row_with_a_thing_twice(self):
        self.refuses_row([[0, 1, 2], [2, 0, 2]], 1)
        self.refuses_row([[1, 1]], 0)

    def test_a_row_with_something_that_is_no_thing(self):
        for thing in NO_THINGS:
            for hand in range(3):
                for place in range(3):
                    rows = [identity(3) for row in range(3)]
                    rows[hand][place] = thing
                    with self.subTest(rows):
                        self.refuses_row(rows, hand)

    def test_the_bound_of_things_is_that_of_the_first_row(self):
        self.refuses_row([[0, 2]], 0)
        self.refuses_row([[0, 1, 3], [0, 1, 2]], 0)

    def test_the_least_hand_is_told(self):
        self.refuses_row([[0, 1, 2], [0, 1], [0, 1, 1]], 1)
        self.refuses_row([[0, 1, 2], [0, 1, 1], [0, 1]], 1)
        self.refuses_row([[0, 1, 1], [0], [None, 1, 2]], 0)
        self.refuses_row([[0, 1, 2], [2, 1, 0], [2, 1, True]], 2)

    def test_the_rows_stay_as_they_were(self):
        for rows in ([[1, 0], [0, 1]], [[1, 0], [0, 0]], [[0], [0, 1]]):
            before = copies(rows)
            try:
                wishes_of(rows)
            except (NoRow, TooMany):
                pass
            self.assertEqual(rows, before)

    def test_what_is_changed_afterwards_changes_nothing(self):
        rows = [[1, 0], [0, 1]]
        wishes = wishes_of(rows)
        rows[0].append(5)
        rows.append("more")
        self.assertEqual(wishes, ((1, 0), (0, 1)))


class ThingsAndLikesTest(unittest.TestCase):
    def test_things_in(self):
        for hands in range(1, 8):
            for things in range(hands, 9):
                with self.subTest(hands=hands, things=things):
                    self.assertEqual(things_in(wishes_of([identity(things)] * hands)), things)

    def test_likes_what_stands_ahead(self):
        wishes = wishes_of([[2, 0, 1], [1, 2, 0]])
        for hand, one, other in ((0, 2, 0), (0, 2, 1), (0, 0, 1), (1, 1, 2), (1, 1, 0), (1, 2, 0)):
            with self.subTest(hand=hand, one=one, other=other):
                self.assertIs(likes(wishes, hand, one, other), True)
                self.assertIs(likes(wishes, hand, other, one), False)

    def test_likes_no_thing_better_than_itself(self):
        wishes = wishes_of([[2, 0, 1], [1, 2, 0]])
        for hand in range(2):
            for thing in range(3):
                self.assertIs(likes(wishes, hand, thing, thing), False)

    def test_likes_over_all_rows(self):
        for row in permutations(range(4)):
            for one, other in product(range(4), repeat=2):
                ahead = other in row[row.index(one) + 1:]
                self.assertIs(likes((row,), 0, one, other), ahead)


class OwnsOfTest(unittest.TestCase):
    def setUp(self):
        self.wishes = wishes_of([[0, 1, 2, 3], [1, 0, 3, 2], [3, 2, 1, 0]])

    def refuses(self, things, hand):
        with self.assertRaises(NoOwn) as caught:
            owns_of(self.wishes, things)
        self.assertEqual(caught.exception.hand, hand)

    def test_owns_are_a_tuple(self):
        for things in ([0, 1, 2], [3, None, 0], [None, None, None], [None, 3, None]):
            with self.subTest(things):
                self.assertEqual(owns_of(self.wishes, things), tuple(things))
                self.assertIsInstance(owns_of(self.wishes, things), tuple)

    def test_all_small_lists_are_taken_just_where_they_are_owns(self):
        wishes = all_wishes(2, 3)[0]
        right = all_owns(2, 3)
        for things in product((None, -1, 0, 1, 2, 3), repeat=2):
            with self.subTest(things):
                if things in right:
                    self.assertEqual(owns_of(wishes, list(things)), things)
                else:
                    self.assertRaises(NoOwn, owns_of, wishes, list(things))

    def test_too_short_and_too_long(self):
        for things in ([], [0], [0, 1], [0, 1, 2, 3], [None] * 4, [None] * 300):
            with self.subTest(things):
                self.refuses(things, 3)

    def test_the_length_comes_ahead_of_all_else(self):
        self.refuses(["A", 9], 3)
        self.refuses([0, 0, True, 9], 3)

    def test_no_thing_of_the_wishes(self):
        for thing in (-1, 4, 8, 10 ** 59, True, False, "A", "", 0.0, [0], (0,)):
            for hand in range(3):
                things = [None, None, None]
                things[hand] = thing
                with self.subTest(things):
                    self.refuses(things, hand)

    def test_a_thing_twice(self):
        self.refuses([0, 0, 1], 1)
        self.refuses([0, 1, 0], 2)
        self.refuses([None, 3, 3], 2)

    def test_the_first_wrong_place_is_told(self):
        self.refuses([0, 0, 9], 1)
        self.refuses([0, 9, 0], 1)
        self.refuses([9, 0, 0], 0)

    def test_things_beyond_the_hands_may_be_owned(self):
        self.assertEqual(owns_of(self.wishes, [3, None, None]), (3, None, None))

    def test_the_list_stays_as_it_was_and_is_not_kept(self):
        things = [2, None, 0]
        owns = owns_of(self.wishes, things)
        self.assertEqual(things, [2, None, 0])
        things[0] = 1
        self.assertEqual(owns, (2, None, 0))

    def test_what_was_told_may_be_handed_in_again(self):
        self.assertEqual(owns_of(self.wishes, list(owns_of(self.wishes, [2, None, 0]))), (2, None, 0))


class OrderOfTest(unittest.TestCase):
    def setUp(self):
        self.wishes = wishes_of([[0, 1, 2, 3], [1, 0, 3, 2], [3, 2, 1, 0]])

    def refuses(self, order, at):
        with self.assertRaises(NoOrder) as caught:
            order_of(self.wishes, order)
        self.assertEqual(caught.exception.at, at)

    def test_none_is_the_hands_as_they_are_counted(self):
        self.assertEqual(order_of(self.wishes), [0, 1, 2])
        self.assertEqual(order_of(self.wishes, None), [0, 1, 2])
        for hands in range(1, 8):
            self.assertEqual(order_of(wishes_of([identity(8)] * hands)), identity(hands))

    def test_each_order(self):
        for order in permutations(range(3)):
            with self.subTest(order):
                self.assertEqual(order_of(self.wishes, list(order)), list(order))

    def test_no_hand(self):
        for hand in (-1, 3, 10 ** 59, True, False, None, "0", 0.0, [0]):
            for at in range(3):
                order = [2, 1, 0]
                order[at] = hand
                with self.subTest(order):
                    self.refuses(order, at)

    def test_a_hand_that_stood_ahead(self):
        self.refuses([0, 0, 1], 1)
        self.refuses([2, 0, 2], 2)

    def test_too_short(self):
        self.refuses([], 0)
        self.refuses([1], 1)
        self.refuses([2, 0], 2)

    def test_too_short_and_wrong(self):
        self.refuses([3], 0)
        self.refuses([1, 1], 1)

    def test_too_long(self):
        self.refuses([2, 0, 1, 0], 3)
        self.refuses([2, 0, 1, 3], 3)
        self.refuses([2, 2, 1, 0], 1)
        self.refuses([0, 1, 2] * 100, 3)

    def test_the_first_wrong_place_is_told(self):
        self.refuses([0, 3, 0], 1)
        self.refuses([5, 5, 5], 0)

    def test_the_list_told_is_a_new_one(self):
        order = [2, 0, 1]
        told = order_of(self.wishes, order)
        self.assertIsNot(told, order)
        told.append(7)
        self.assertEqual(order, [2, 0, 1])
        self.assertEqual(order_of(self.wishes, order), [2, 0, 1])

    def test_a_spoilt_list_spoils_nothing_asked_later(self):
        order_of(self.wishes).clear()
        self.assertEqual(order_of(self.wishes), [0, 1, 2])


if __name__ == "__main__":
    unittest.main()
