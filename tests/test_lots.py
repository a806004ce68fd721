"""Points 18 and 19, of 3 what it says of lots, and the interface of ringtrade/lots.py."""

import unittest
from fractions import Fraction
from itertools import permutations

from ringtrade.errors import NotSquare, TooMany
from ringtrade.lots import lot, lot_of_ownings
from tests import helper


def like_wishes(hands, things):
    return (tuple(range(things)),) * hands


def plain_shares(dealings, hands, things):
    many = len(dealings)
    return helper.plain_table(
        [[Fraction(sum(dealing[hand] == thing for dealing in dealings), many) for thing in range(things)]
         for hand in range(hands)]
    )


def plain_lot(wishes):
    dealings = [helper.plain_by_order(wishes, order) for order in permutations(range(len(wishes)))]
    return plain_shares(dealings, len(wishes), len(wishes[0]))


def plain_lot_of_ownings(wishes):
    dealings = []
    for owns in helper.all_owned(len(wishes)):
        got = {}
        for rings in helper.plain_rounds(wishes, owns, range(len(wishes))):
            for ring in rings:
                got.update(ring)
        dealings.append([got[hand] for hand in range(len(wishes))])
    return plain_shares(dealings, len(wishes), len(wishes))


class LotTest(unittest.TestCase):
    def test_one_hand(self):
        self.assertEqual(lot(helper.wishes_in("A")), (((1, 1),),))
        self.assertEqual(lot(helper.wishes_in("C A B")), (((0, 1), (0, 1), (1, 1)),))

    def test_two_hands(self):
        self.assertEqual(lot(helper.wishes_in("A B; A B")), (((1, 2), (1, 2)), ((1, 2), (1, 2))))
        self.assertEqual(lot(helper.wishes_in("A B; B A")), (((1, 1), (0, 1)), ((0, 1), (1, 1))))
        self.assertEqual(lot(helper.wishes_in("A B C; A C B")), (((1, 2), (1, 2), (0, 1)), ((1, 2), (0, 1), (1, 2))))

    def test_a_lot_that_is_not_the_eaten_table(self):
        five, one = (5, 12), (1, 12)
        rows = ((five, one, five, one), (one, five, one, five))
        told = lot(helper.wishes_in("A B C D; A B C D; B A D C; B A D C"))
        self.assertEqual(told, (rows[0], rows[0], rows[1], rows[1]))

    def test_like_rows_of_one_to_five_hands_and_more_things(self):
        for hands in range(1, 6):
            for things in range(hands, 9):
                row = ((1, hands),) * hands + ((0, 1),) * (things - hands)
                self.assertEqual(lot(like_wishes(hands, things)), (row,) * hands)

    def test_six_and_seven_hands_are_too_many(self):
        for hands, things in ((6, 6), (6, 7), (6, 8), (7, 7), (7, 8)):
            with self.assertRaises(TooMany):
                lot(like_wishes(hands, things))

    def test_all_small_wishes(self):
        for hands, things in ((1, 1), (1, 2), (1, 3), (2, 2), (2, 3), (3, 3)):
            for wishes in helper.all_wishes(hands, things):
                self.assertEqual(lot(wishes), plain_lot(wishes))

    def test_greater_ones(self):
        asked = [wishes for wishes, owns, order in helper.some_asked(350, 51) if len(wishes) < 6]
        self.assertEqual({len(wishes) for wishes in asked}, {1, 2, 3, 4, 5})
        for wishes in asked:
            told = lot(wishes)
            self.assertIsInstance(told, tuple)
            self.assertEqual(told, plain_lot(wishes))

    def test_each_hand_gets_one_thing_in_sum(self):
        for wishes, owns, order in helper.some_asked(140, 52):
            if len(wishes) < 6:
                self.assertEqual([sum(helper.worths(shares)) for shares in lot(wishes)], [1] * len(wishes))

    def test_what_is_handed_in_stays_and_asked_again_the_answer_is_the_same(self):
        for wishes in helper.some_with_like_rows(25, 53, 5):
            helper.stays_and_is_told_again(self, lot, wishes)


class LotOfOwningsTest(unittest.TestCase):
    def test_one_hand(self):
        self.assertEqual(lot_of_ownings(helper.wishes_in("A")), (((1, 1),),))

    def test_two_and_three_hands(self):
        self.assertEqual(lot_of_ownings(helper.wishes_in("A B; A B")), (((1, 2), (1, 2)), ((1, 2), (1, 2))))
        self.assertEqual(lot_of_ownings(helper.wishes_in("B A; A B")), (((0, 1), (1, 1)), ((1, 1), (0, 1))))
        self.assertEqual(
            lot_of_ownings(helper.wishes_in("A B C; A B C; B A C")),
            (((1, 2), (1, 6), (1, 3)), ((1, 2), (1, 6), (1, 3)), ((0, 1), (2, 3), (1, 3))),
        )

    def test_more_things_than_hands_are_refused(self):
        for hands, things in ((1, 2), (1, 8), (2, 3), (4, 5), (5, 6), (5, 8)):
            with self.assertRaises(NotSquare):
                lot_of_ownings(like_wishes(hands, things))

    def test_not_square_comes_ahead_of_too_many(self):
        for hands, things in ((6, 7), (6, 8), (7, 8)):
            with self.assertRaises(NotSquare):
                lot_of_ownings(like_wishes(hands, things))

    def test_six_and_seven_hands_are_too_many(self):
        for hands in (6, 7):
            with self.assertRaises(TooMany):
                lot_of_ownings(like_wishes(hands, hands))

    def asks(self, wishes):
        told = lot_of_ownings(wishes)
        self.assertIsInstance(told, tuple)
        self.assertEqual(told, plain_lot_of_ownings(wishes))
        self.assertEqual(told, lot(wishes))

    def test_all_small_wishes(self):
        for hands in (1, 2, 3):
            for wishes in helper.all_wishes(hands, hands):
                self.asks(wishes)

    def test_greater_ones(self):
        for wishes, owns, dealing in helper.some_square(60, 54, 5):
            self.asks(wishes)
        for wishes in helper.some_with_like_rows(40, 55, 5):
            self.asks(wishes)

    def test_what_is_handed_in_stays_and_asked_again_the_answer_is_the_same(self):
        for wishes in helper.some_with_like_rows(25, 56, 5):
            helper.stays_and_is_told_again(self, lot_of_ownings, wishes)


class LikeRowsTest(unittest.TestCase):
    def test_hands_with_like_rows_have_like_shares(self):
        for wishes in helper.some_with_like_rows(100, 57, 5):
            for told in (lot(wishes), lot_of_ownings(wishes)):
                self.assertTrue(helper.has_like_shares_for_like_rows(wishes, told))

    def test_with_more_things_than_hands_too(self):
        told = lot(helper.wishes_in("B C A D E; A B C D E; B C A D E; A B C D E"))
        self.assertEqual((told[0], told[1]), (told[2], told[3]))


if __name__ == "__main__":
    unittest.main()
