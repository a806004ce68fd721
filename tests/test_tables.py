"""Points 22, 23 and 24, of 3 what it says of heights and rings of shares, and the interface of ringtrade/tables.py."""

import unittest
from fractions import Fraction
from itertools import product

from ringtrade.eating import eaten, no_less
from ringtrade.errors import NoTable, TooMany
from ringtrade.lots import lot
from ringtrade.tables import can_hand, handed, heights, share_ring, table_of
from tests import helper
from tests.helper import HALF, NOUGHT, ONE


def small_sizes():
    """Numbers of hands and of parts of one, few enough to walk over all tables of them."""
    return ((1, 1), (1, 3), (2, 1), (2, 2), (2, 3), (2, 4), (3, 1), (3, 2))


def all_asked(hands, parts):
    return list(product(helper.all_wishes(hands, hands), helper.all_tables(hands, parts)))


def searched_heights(wishes, table):
    """The least of all that are heights, looked for one by one below the number of things."""
    many = len(wishes)
    found = [told for told in product(range(many), repeat=many) if helper.are_heights(wishes, table, told)]
    return tuple(min(column) for column in zip(*found)) if found else None


def plain_handed(table, ring, part):
    rows = [helper.worths(shares) for shares in table]
    for place, (hand, thing) in enumerate(ring):
        rows[hand][thing] -= part
        rows[hand][ring[(place + 1) % len(ring)][1]] += part
    return helper.plain_table(rows)


class TableOfTest(unittest.TestCase):
    def refuses(self, rows, why):
        before = helper.copies(rows)
        with self.assertRaises(NoTable) as caught:
            table_of(rows)
        self.assertEqual(caught.exception.why, why)
        self.assertEqual(rows, before)

    def test_one_hand(self):
        self.assertEqual(table_of([[(1, 1)]]), (((1, 1),),))
        self.assertEqual(table_of([((7, 7),)]), (((1, 1),),))

    def test_rows_as_lists_and_as_tuples(self):
        rows = [[(1, 3), (2, 3)], ((2, 3), (1, 3))]
        told = (((1, 3), (2, 3)), ((2, 3), (1, 3)))
        self.assertEqual(table_of(rows), told)
        self.assertEqual(table_of([tuple(row) for row in rows]), told)
        self.assertEqual(table_of([list(row) for row in rows]), told)

    def test_fractions_in_lowest_terms_or_not(self):
        rows = [[(2, 4), (3, 6), (0, 5)], [(1, 2), (0, 1), (2, 4)], [(0, 7), (10, 20), (4, 8)]]
        self.assertEqual(table_of(rows), ((HALF, HALF, NOUGHT), (HALF, NOUGHT, HALF), (NOUGHT, HALF, HALF)))

    def test_fractions_of_sixty_figures(self):
        great = 10 ** 60 - 1
        rows = [[(1, great), (great - 1, great)], [(great - 1, great), (1, great)]]
        self.assertEqual(table_of(rows), tuple(tuple(row) for row in rows))
        self.refuses([[(1, great), (great - 2, great)], [(great - 1, great), (1, great)]], ("row", 0))
        self.assertEqual(table_of([[(great, great)]]), (((1, 1),),))

    def test_no_row_and_more_than_seven(self):
        for rows in ([], helper.like_shares(8), [[]] * 8, [[(1, 1)]] * 300):
            with self.assertRaises(TooMany):
                table_of(list(rows))

    def test_one_to_seven_rows(self):
        for hands in range(1, 8):
            self.assertEqual(table_of(list(helper.like_shares(hands))), helper.like_shares(hands))

    def test_a_row_too_short_or_too_long(self):
        self.refuses([[]], ("row", 0))
        self.refuses([[ONE, NOUGHT]], ("row", 0))
        self.refuses([[ONE, NOUGHT], [ONE]], ("row", 1))
        self.refuses([[ONE, NOUGHT], [NOUGHT, ONE, NOUGHT]], ("row", 1))
        self.refuses([[ONE], [NOUGHT, ONE]], ("row", 0))
        # As long as the first one, but not as many as there are rows.
        self.refuses([[ONE, NOUGHT, NOUGHT], [NOUGHT, ONE, NOUGHT]], ("row", 0))

    def test_a_fraction_below_nought(self):
        self.refuses([[(-1, 2), (3, 2)], [(3, 2), (-1, 2)]], ("row", 0))
        self.refuses([[ONE, NOUGHT], [(2, 1), (-1, 1)]], ("row", 1))

    def test_a_row_that_does_not_sum_to_one(self):
        self.refuses([[HALF, (1, 3)], [HALF, HALF]], ("row", 0))
        self.refuses([[HALF, HALF], [HALF, (2, 3)]], ("row", 1))
        self.refuses([[(2, 1)]], ("row", 0))
        self.refuses([[NOUGHT]], ("row", 0))

    def test_a_column_that_does_not_sum_to_one(self):
        self.refuses([[ONE, NOUGHT], [ONE, NOUGHT]], ("column", 0))
        self.refuses([[HALF, HALF], [(1, 3), (2, 3)]], ("column", 0))
        self.refuses([[ONE, NOUGHT, NOUGHT], [NOUGHT, HALF, HALF], [NOUGHT, ONE, NOUGHT]], ("column", 1))

    def test_the_first_wrong_row_is_told(self):
        self.refuses([[ONE, NOUGHT, NOUGHT], [HALF, HALF, HALF], [ONE]], ("row", 1))
        self.refuses([[ONE, NOUGHT, NOUGHT], [ONE], [HALF, HALF, HALF]], ("row", 1))
        self.refuses([[NOUGHT, ONE, NOUGHT], [(-1, 1), ONE, ONE], [ONE]], ("row", 1))
        self.refuses([[ONE, NOUGHT, NOUGHT], [ONE, NOUGHT, NOUGHT], [(3, 1), (-1, 1), (-1, 1)]], ("row", 2))

    def test_a_row_is_told_ahead_of_a_column(self):
        self.refuses([[ONE, NOUGHT], [HALF, NOUGHT]], ("row", 1))
        self.refuses([[ONE, NOUGHT, NOUGHT], [ONE, NOUGHT, NOUGHT], [ONE, ONE, NOUGHT]], ("row", 2))

    def test_bottoms_below_one(self):
        for pair in ((1, 0), (0, 0), (-1, -1), (1, -1), (0, -1)):
            self.refuses([[pair]], ("row", 0))
        self.refuses([[HALF, HALF], [HALF, (-1, -2)]], ("row", 1))

    def test_a_truth_is_no_number(self):
        for pair in ((True, 1), (1, True), (True, True)):
            self.refuses([[pair]], ("row", 0))
        self.refuses([[ONE, NOUGHT], [(False, 1), ONE]], ("row", 1))

    def test_what_is_no_pair(self):
        for wrong in (None, 1, True, "11", (1,), (1, 1, 1), (), ("1", "1"), (None, 1)):
            self.refuses([[wrong]], ("row", 0))

    def test_all_of_small_numbers(self):
        shares = [(top, bottom) for bottom in (1, 2) for top in (-1, 0, 1, 2)]
        for first, second, third, fourth in product(shares, repeat=4):
            rows = [[first, second], [third, fourth]]
            worths = [helper.worths(row) for row in rows]
            wrong = [("row", k) for k, row in enumerate(worths) if min(row) < 0 or sum(row) != 1]
            wrong += [("column", k) for k, column in enumerate(zip(*worths)) if sum(column) != 1]
            if wrong:
                self.refuses(rows, wrong[0])
            else:
                self.assertEqual(table_of(rows), helper.plain_table(worths))

    def test_what_was_told_is_taken_again(self):
        for wishes, table in helper.some_tables(70, 71):
            self.assertEqual(table_of(table), table)
            self.assertEqual(table_of(list(table)), table)
            self.assertEqual(table_of([list(row) for row in table]), table)
        self.assertEqual(table_of(lot(helper.wishes_in("A B C; A C B; B A C"))), lot(helper.wishes_in("A B C; A C B; B A C")))

    def test_what_is_done_to_the_rows_later_changes_nothing(self):
        rows = [[(1, 3), (2, 3)], [(2, 3), (1, 3)]]
        told = table_of(rows)
        rows[0][0] = (5, 1)
        rows.append([])
        self.assertEqual(told, (((1, 3), (2, 3)), ((2, 3), (1, 3))))

    def test_what_is_handed_in_stays(self):
        helper.stays_and_is_told_again(self, table_of, [[(2, 6), (4, 6)], [(4, 6), (2, 6)]])


class HeightsTest(unittest.TestCase):
    def test_one_hand(self):
        self.assertEqual(heights(helper.wishes_in("A"), ((ONE,),)), (0,))

    def test_each_has_its_best_thing(self):
        self.assertEqual(heights(helper.wishes_in("A B C; C A B; B A C"), helper.sure_table((0, 2, 1))), (0, 0, 0))

    def test_like_rows(self):
        for hands in range(1, 8):
            wishes = (tuple(range(hands)),) * hands
            self.assertEqual(heights(wishes, helper.like_shares(hands)), tuple(range(hands - 1, -1, -1)))

    def test_none_where_two_would_change(self):
        self.assertIsNone(heights(helper.wishes_in("B A; A B"), helper.sure_table((0, 1))))
        self.assertIsNone(heights(helper.wishes_in("B A; A B"), helper.like_shares(2)))
        self.assertEqual(heights(helper.wishes_in("B A; A B"), helper.sure_table((1, 0))), (0, 0))

    def test_a_share_of_nought_raises_nothing(self):
        table = ((HALF, HALF, NOUGHT), (HALF, HALF, NOUGHT), (NOUGHT, NOUGHT, ONE))
        self.assertEqual(heights(helper.wishes_in("A B C; A B C; C A B"), table), (1, 0, 0))
        self.assertEqual(heights(helper.wishes_in("A B C; A B C; B C A"), table), (2, 1, 0))

    def test_heights_that_are_not_side_by_side(self):
        # Thing 0 must stand above 1, and 1 above 2; thing 3 need stand above 2 alone.
        halves = (HALF, HALF, NOUGHT, NOUGHT)
        table = (halves, halves, (NOUGHT, NOUGHT, ONE, NOUGHT), (NOUGHT, NOUGHT, NOUGHT, ONE))
        self.assertEqual(heights(helper.wishes_in("A B C D; A B C D; D B C A; D A B C"), table), (2, 1, 0, 1))

    def test_the_lot_over_orders_may_have_none(self):
        wishes = helper.wishes_in("A B C D; A B C D; B A D C; B A D C")
        self.assertIsNone(heights(wishes, lot(wishes)))
        self.assertEqual(heights(wishes, eaten(wishes)[0]), (1, 1, 0, 0))

    def test_all_small_tables(self):
        for hands, parts in small_sizes():
            for wishes, table in all_asked(hands, parts):
                self.assertEqual(heights(wishes, table), searched_heights(wishes, table))
        for wishes, table in all_asked(3, 3)[::5]:
            self.assertEqual(heights(wishes, table), searched_heights(wishes, table))

    def test_four_hands(self):
        for wishes, table in helper.some_tables(400, 72, 4):
            self.assertEqual(heights(wishes, table), searched_heights(wishes, table))

    def test_greater_ones(self):
        asked = helper.some_tables(350, 73)
        asked += [(wishes, eaten(wishes)[0]) for wishes, owns, dealing in helper.some_square(210, 74)]
        for wishes, table in asked:
            told = heights(wishes, table)
            if told is not None:
                self.assertIsInstance(told, tuple)
                self.assertTrue(helper.are_heights(wishes, table, told))
                # Each one is nought, or one above another one that must lie below it: so none can be less.
                for thing, height in enumerate(told):
                    below = [told[low] for low, high in helper.rises(wishes, table) if high == thing]
                    self.assertEqual(height, max(below, default=-1) + 1)

    def test_what_is_handed_in_stays_and_asked_again_the_answer_is_the_same(self):
        for wishes, table in helper.some_tables(70, 75):
            helper.stays_and_is_told_again(self, heights, wishes, table)


class ShareRingTest(unittest.TestCase):
    def test_none(self):
        self.assertIsNone(share_ring(helper.wishes_in("A"), ((ONE,),)))
        self.assertIsNone(share_ring(helper.wishes_in("A B; A B"), helper.like_shares(2)))
        self.assertIsNone(share_ring(helper.wishes_in("A B C; C A B; B A C"), helper.sure_table((0, 2, 1))))

    def test_two_that_would_change(self):
        for table in (helper.sure_table((0, 1)), helper.like_shares(2)):
            self.assertIn(share_ring(helper.wishes_in("B A; A B"), table), (((0, 0), (1, 1)), ((1, 1), (0, 0))))

    def test_seven_that_would_change(self):
        wishes = tuple(tuple((hand + 1 - k) % 7 for k in range(7)) for hand in range(7))
        ring = share_ring(wishes, helper.sure_table(range(7)))
        turn = ring.index((0, 0))
        self.assertEqual(ring[turn:] + ring[:turn], tuple((hand, hand) for hand in range(7)))

    def asks(self, wishes, table):
        ring = share_ring(wishes, table)
        self.assertEqual(ring is None, heights(wishes, table) is not None)
        if ring is not None:
            self.assertIsInstance(ring, tuple)
            self.assertTrue(all(isinstance(pair, tuple) for pair in ring))
            self.assertTrue(helper.is_share_ring(wishes, table, ring))
        return ring

    def test_all_small_tables(self):
        for hands, parts in small_sizes():
            for wishes, table in all_asked(hands, parts):
                self.asks(wishes, table)

    def test_none_just_where_there_is_no_ring(self):
        for wishes, table in all_asked(2, 3) + all_asked(3, 2)[::3]:
            self.assertEqual(self.asks(wishes, table) is None, not helper.all_share_rings(wishes, table))

    def test_greater_ones(self):
        asked = helper.some_tables(700, 76)
        asked += [(wishes, lot(wishes)) for wishes, owns, dealing in helper.some_square(100, 77, 5)]
        rings = [self.asks(wishes, table) for wishes, table in asked]
        self.assertIn(None, rings)
        self.assertGreater(len([ring for ring in rings if ring is not None]), 200)

    def test_the_eaten_table_has_none(self):
        for wishes, owns, dealing in helper.some_square(210, 78):
            self.assertIsNone(self.asks(wishes, eaten(wishes)[0]))

    def test_none_just_where_no_table_of_the_same_parts_is_better(self):
        for hands, parts, every in ((1, 2, 1), (2, 1, 1), (2, 2, 1), (2, 4, 1), (3, 1, 1), (3, 2, 3), (3, 3, 20)):
            tables = helper.all_tables(hands, parts)
            for wishes in helper.all_wishes(hands, hands)[::every]:
                sums = [[helper.plain_sums(row, shares) for row, shares in zip(wishes, table)] for table in tables]
                for table, mine in zip(tables, sums):
                    better = [other for other in sums if other != mine and are_no_less(other, mine)]
                    self.assertEqual(share_ring(wishes, table) is None, not better)
                    self.assertEqual(heights(wishes, table) is None, bool(better))

    def test_what_is_handed_in_stays_and_asked_again_the_answer_is_the_same(self):
        for wishes, table in helper.some_tables(70, 79):
            helper.stays_and_is_told_again(self, share_ring, wishes, table)


def are_no_less(sums, others):
    return all(one >= other for mine, theirs in zip(sums, others) for one, other in zip(mine, theirs))


class HandedTest(unittest.TestCase):
    def asks(self, wishes, table, ring):
        before = helper.copies((wishes, table, ring))
        most = can_hand(table, ring)
        self.assertEqual(most, helper.pair_of(min(Fraction(*table[hand][thing]) for hand, thing in ring)))
        for part in (Fraction(*most), Fraction(*most) / 2, Fraction(*most) * 3 / 7):
            told = handed(table, ring, helper.pair_of(part))
            self.assertIsInstance(told, tuple)
            self.assertTrue(all(isinstance(row, tuple) for row in told))
            self.assertEqual(told, plain_handed(table, ring, part))
            self.assertEqual(table_of(told), told)
            in_it = [hand for hand, thing in ring]
            for hand in range(len(wishes)):
                self.assertTrue(no_less(wishes, hand, told[hand], table[hand]))
                self.assertEqual(no_less(wishes, hand, table[hand], told[hand]), hand not in in_it)
        self.assertEqual((wishes, table, ring), before)

    def test_all_and_less(self):
        wishes, table = helper.wishes_in("B A; A B"), helper.like_shares(2)
        ring = ((0, 0), (1, 1))
        self.assertEqual(can_hand(table, ring), HALF)
        self.assertEqual(handed(table, ring, HALF), helper.sure_table((1, 0)))
        self.assertEqual(handed(table, ring, (1, 3)), (((1, 6), (5, 6)), ((5, 6), (1, 6))))
        self.asks(wishes, table, ring)

    def test_the_least_share_can_be_handed_on(self):
        table = (((1, 3), (2, 3), NOUGHT), ((2, 3), (1, 12), (1, 4)), (NOUGHT, (1, 4), (3, 4)))
        self.assertEqual(can_hand(table, ((0, 0), (1, 1))), (1, 12))
        self.assertEqual(can_hand(table, ((1, 1), (0, 0))), (1, 12))
        self.assertEqual(can_hand(table, ((2, 2), (1, 0), (0, 1))), (2, 3))
        self.assertEqual(can_hand(table, ((0, 0), (2, 1), (1, 2))), (1, 4))

    def test_three_hands(self):
        wishes, table = helper.wishes_in("B A C; C B A; A C B"), helper.sure_table((0, 1, 2))
        ring = ((0, 0), (1, 1), (2, 2))
        self.assertEqual(can_hand(table, ring), ONE)
        self.assertEqual(handed(table, ring, ONE), helper.sure_table((1, 2, 0)))
        some = ((1, 4), (3, 4))
        self.assertEqual(
            handed(table, ring, (3, 4)),
            (some + (NOUGHT,), (NOUGHT,) + some, ((3, 4), NOUGHT, (1, 4))),
        )
        self.asks(wishes, table, ring)

    def test_a_ring_that_begins_elsewhere(self):
        table = helper.sure_table((0, 1, 2))
        self.assertEqual(handed(table, ((2, 2), (0, 0), (1, 1)), HALF), handed(table, ((0, 0), (1, 1), (2, 2)), HALF))

    def test_a_hand_that_stands_in_it_twice_side_by_side(self):
        wishes = helper.wishes_in("A B C; C A B; A B C")
        table = ((NOUGHT, HALF, HALF), (HALF, HALF, NOUGHT), (HALF, NOUGHT, HALF))
        ring = ((0, 2), (0, 1), (1, 0))
        self.assertTrue(helper.is_share_ring(wishes, table, ring))
        self.assertEqual(
            handed(table, ring, (1, 4)),
            (((1, 4), HALF, (1, 4)), ((1, 4), HALF, (1, 4)), (HALF, NOUGHT, HALF)),
        )
        self.assertEqual(handed(table, ring, HALF), ((HALF, HALF, NOUGHT), (NOUGHT, HALF, HALF), (HALF, NOUGHT, HALF)))
        self.asks(wishes, table, ring)

    def test_a_hand_that_stands_in_it_twice_with_others_between(self):
        wishes = helper.wishes_in("A B C D; D A B C; B D A C; A B C D")
        quarter = (1, 4)
        table = ((quarter,) * 4,) * 4
        for ring in (((0, 3), (1, 2), (0, 1), (2, 0)), ((0, 3), (1, 2), (0, 1), (1, 0))):
            self.assertTrue(helper.is_share_ring(wishes, table, ring))
            self.asks(wishes, table, ring)

    def test_all_rings_of_small_tables(self):
        twice = 0
        for wishes, table in all_asked(2, 3) + all_asked(3, 2)[::41]:
            for ring in helper.all_share_rings(wishes, table):
                self.asks(wishes, table, ring)
                twice += len({hand for hand, thing in ring}) < len(ring)
        self.assertGreater(twice, 0)

    def test_told_rings_of_greater_tables(self):
        for wishes, table in helper.some_tables(210, 80):
            ring = share_ring(wishes, table)
            if ring is not None:
                self.asks(wishes, table, ring)

    def test_handed_on_again_and_again_it_comes_to_heights(self):
        for wishes, table in helper.some_tables(140, 81):
            for turn in range(200):
                ring = share_ring(wishes, table)
                if ring is None:
                    break
                table = handed(table, ring, can_hand(table, ring))
            self.assertIsNotNone(heights(wishes, table))

    def test_small_fractions_of_sixty_figures(self):
        great = 10 ** 59
        table = (((1, great), (great - 1, great)), ((great - 1, great), (1, great)))
        ring = ((0, 0), (1, 1))
        self.assertEqual(can_hand(table, ring), (1, great))
        self.assertEqual(handed(table, ring, (1, great)), helper.sure_table((1, 0)))
        self.asks(helper.wishes_in("B A; A B"), table, ring)


if __name__ == "__main__":
    unittest.main()
