"""Point 3, the whole promise, over drawn wishes, owns, orders, dealings and tables, from the rounds to the parts."""

import random
import unittest
from fractions import Fraction
from itertools import permutations

from ringtrade.asking import by_asking
from ringtrade.bettering import bettered, betterment
from ringtrade.eating import eaten, no_less, sums_along
from ringtrade.groups import goers, goes
from ringtrade.lots import lot, lot_of_ownings
from ringtrade.orders import by_order, order_behind
from ringtrade.papers import Betters, Goes, Handing, Ordered, Parted, Rising
from ringtrade.parting import mixed, parted
from ringtrade.rings import by_rings, rounds
from ringtrade.rules import ByEating, ByLot, ByOrder, ByRings
from ringtrade.tables import can_hand, handed, heights, share_ring, table_of
from ringtrade.wishes import likes
from tests import helper


def rows_to_write(things, source):
    """All rows of few things, some of more."""
    if things < 5:
        return list(permutations(range(things)))
    return [tuple(source.sample(range(things), things)) for turn in range(40)]


def with_row(wishes, hand, row):
    return wishes[:hand] + (row,) + wishes[hand + 1:]


class AllOwnedTest(unittest.TestCase):
    """Each hand owns a thing and each thing is owned."""

    def test_the_dealing_is_told_round_by_round(self):
        for wishes, owns, dealing in helper.some_square(140, 141):
            got = {}
            for rings in rounds(wishes, owns):
                self.assertTrue(rings)
                for ring in rings:
                    self.assertFalse(any(hand in got for hand, thing in ring))
                    got.update(ring)
            self.assertEqual(tuple(got[hand] for hand in range(len(wishes))), by_rings(wishes, owns))

    def test_it_is_the_only_one_from_which_no_group_goes(self):
        for wishes, owns, drawn in helper.some_square(80, 142, 4):
            kept = by_rings(wishes, owns)
            rings = helper.rings_of_owns(owns)
            for dealing in helper.all_dealings(len(wishes), len(wishes)):
                going = [ring for ring in rings if goes(wishes, owns, dealing, ring)]
                self.assertEqual(not going, dealing == kept)
                self.assertEqual(going, [ring for ring in rings if Goes(owns, ring).shows(wishes, dealing)])
                told = goers(wishes, owns, dealing)
                self.assertEqual(told is None, dealing == kept)
                self.assertTrue(told is None or told in going)

    def test_of_each_other_dealing_a_group_is_told(self):
        for wishes, owns, dealing in helper.some_square(210, 143):
            told = goers(wishes, owns, dealing)
            self.assertEqual(told is None, dealing == by_rings(wishes, owns))
            if told is not None:
                self.assertTrue(Goes(owns, told).shows(wishes, dealing))


class WhoeverOwnsWhatTest(unittest.TestCase):
    def test_nobody_ends_with_less_than_the_own_thing(self):
        for wishes, owns, order in helper.some_asked(350, 144):
            dealing = by_rings(wishes, owns, order)
            for hand, own in enumerate(owns):
                self.assertFalse(own is not None and likes(wishes, hand, own, dealing[hand]))

    def test_it_cannot_be_bettered(self):
        for wishes, owns, order in helper.some_asked(210, 145):
            dealing = by_rings(wishes, owns, order)
            self.assertIsNone(betterment(wishes, dealing))
            self.assertTrue(Ordered(order_behind(wishes, dealing)).shows(wishes, dealing))
            if len(wishes) < 5:
                self.assertEqual(helper.better_dealings(wishes, dealing), [])

    def test_nobody_gets_a_better_thing_by_writing_another_row(self):
        source = random.Random(146)
        for wishes, owns, order in helper.some_asked(70, 147):
            dealing = by_rings(wishes, owns, order)
            for hand in range(len(wishes)):
                for row in rows_to_write(len(wishes[0]), source):
                    other = by_rings(with_row(wishes, hand, row), owns, order)
                    self.assertFalse(likes(wishes, hand, other[hand], dealing[hand]))

    def test_hands_who_ask_one_by_one_come_to_the_same_dealing(self):
        for wishes, owns, order in helper.some_asked(350, 148):
            self.assertEqual(by_asking(wishes, owns, order), by_rings(wishes, owns, order))
            self.assertEqual(by_asking(wishes, owns), by_rings(wishes, owns))

    def test_the_rules_tell_the_same(self):
        for wishes, owns, order in helper.some_asked(70, 149):
            self.assertEqual(ByRings(owns, order).sure(wishes), by_asking(wishes, owns, order))
            nobodys = (None,) * len(wishes)
            self.assertEqual(ByOrder(order).sure(wishes), ByRings(nobodys, order).sure(wishes))


class DealingsTest(unittest.TestCase):
    def asks(self, wishes, dealing):
        """An order that makes the dealing, or a betterment, and never both."""
        order, way = order_behind(wishes, dealing), betterment(wishes, dealing)
        self.assertEqual(order is None, way is not None)
        if way is None:
            self.assertEqual(by_order(wishes, order), dealing)
            self.assertTrue(Ordered(order).shows(wishes, dealing))
            return None
        self.assertTrue(Betters(way).shows(wishes, dealing))
        better = bettered(wishes, dealing, way)
        self.assertNotEqual(better, dealing)
        self.assertTrue(helper.like_no_less(wishes, dealing, better))
        return better

    def test_an_order_or_a_betterment_is_told(self):
        for wishes, dealing in helper.some_dealings(350, 150):
            self.asks(wishes, dealing)

    def test_an_order_just_where_no_dealing_is_better(self):
        for wishes, dealing in helper.some_dealings(140, 151):
            if len(wishes) < 5:
                better = helper.better_dealings(wishes, dealing)
                self.assertEqual(self.asks(wishes, dealing) is None, not better)

    def test_bettered_again_and_again_it_comes_to_an_order(self):
        for wishes, dealing in helper.some_dealings(70, 152):
            better = dealing
            while better is not None:
                dealing = better
                better = self.asks(wishes, dealing)
            self.assertIsNotNone(order_behind(wishes, dealing))


class SharesTest(unittest.TestCase):
    def test_both_lots_are_the_same_fractions(self):
        for wishes, owns, dealing in helper.some_square(25, 153, 5):
            table = lot(wishes)
            self.assertEqual(lot_of_ownings(wishes), table)
            self.assertEqual(ByLot().shares(wishes), table)
            self.assertEqual(table_of(table), table)

    def test_hands_with_like_rows_get_like_shares(self):
        for wishes in helper.some_with_like_rows(50, 154, 5):
            self.assertTrue(helper.has_like_shares_for_like_rows(wishes, lot(wishes)))
        for wishes in helper.some_with_like_rows(140, 155):
            self.assertTrue(helper.has_like_shares_for_like_rows(wishes, eaten(wishes)[0]))

    def test_the_eaten_shares_give_each_one_in_sum_and_each_thing_once(self):
        for wishes, owns, dealing in helper.some_square(140, 156):
            rows = [helper.worths(shares) for shares in ByEating().shares(wishes)]
            self.assertEqual([sum(row) for row in rows + list(zip(*rows))], [1] * (2 * len(wishes)))
            self.assertGreaterEqual(min(min(row) for row in rows), 0)

    def test_by_nobodys_row_are_another_ones_shares_more(self):
        for wishes, owns, dealing in helper.some_square(140, 157):
            table = eaten(wishes)[0]
            for hand, shares in enumerate(table):
                for others in table:
                    self.assertTrue(no_less(wishes, hand, shares, others))
                    sums = zip(sums_along(wishes, hand, shares), sums_along(wishes, hand, others))
                    self.assertTrue(all(Fraction(*mine) >= Fraction(*theirs) for mine, theirs in sums))

    def test_heights_show_that_no_table_is_better_than_the_eaten_one(self):
        source = random.Random(158)
        for wishes, owns, dealing in helper.some_square(140, 159):
            table = eaten(wishes)[0]
            self.assertTrue(Rising(heights(wishes, table)).shows(wishes, table))
            self.assertIsNone(share_ring(wishes, table))
            for turn in range(5):
                dealings = [source.sample(range(len(wishes)), len(wishes)) for both in range(3)]
                drawn = helper.plain_mixed([(Fraction(1, 3), one) for one in dealings])
                better = all(no_less(wishes, hand, drawn[hand], table[hand]) for hand in range(len(wishes)))
                self.assertTrue(drawn == table or not better)

    def test_any_table_has_heights_or_a_ring(self):
        found = {True: 0, False: 0}
        for wishes, table in helper.some_tables(350, 160):
            told, ring = heights(wishes, table), share_ring(wishes, table)
            self.assertEqual(told is None, ring is not None)
            found[ring is None] += 1
            if ring is None:
                self.assertTrue(Rising(told).shows(wishes, table))
            else:
                self.is_for_the_better_of_all_in_it(wishes, table, ring)
        self.assertGreater(min(found.values()), 50)

    def is_for_the_better_of_all_in_it(self, wishes, table, ring):
        part = can_hand(table, ring)
        self.assertTrue(Handing(ring, part).shows(wishes, table))
        better = handed(table, ring, part)
        self.assertEqual(table_of(better), better)
        in_it = [hand for hand, thing in ring]
        for hand in range(len(wishes)):
            self.assertTrue(no_less(wishes, hand, better[hand], table[hand]))
            self.assertEqual(no_less(wishes, hand, table[hand], better[hand]), hand not in in_it)


class PartsTest(unittest.TestCase):
    def asks(self, wishes, table):
        parts = parted(table)
        many = len(wishes)
        self.assertLessEqual(len(parts), (many - 1) * (many - 1) + 1)
        self.assertTrue(all(Fraction(*part) > 0 for part, dealing in parts))
        self.assertEqual(sum(Fraction(*part) for part, dealing in parts), 1)
        self.assertEqual(len({dealing for part, dealing in parts}), len(parts))
        self.assertEqual(mixed(parts), table)
        self.assertTrue(Parted(parts).shows(wishes, table))
        return parts

    def test_each_table_of_shares_is_parted(self):
        for wishes, table in helper.some_tables(210, 161, 7, 9):
            self.asks(wishes, table)

    def test_the_tables_of_all_rules(self):
        for wishes, owns, dealing in helper.some_square(70, 162, 5):
            order = list(dealing)
            for rule in (ByRings(owns, order), ByOrder(order), ByLot(), ByEating()):
                parts = self.asks(wishes, rule.shares(wishes))
                sure = rule.sure(wishes)
                if sure is not None:
                    self.assertEqual(parts, [((1, 1), sure)])

    def test_parts_of_tables_with_heights_cannot_be_bettered(self):
        for wishes, owns, dealing in helper.some_square(70, 163):
            for part, one in self.asks(wishes, eaten(wishes)[0]):
                self.assertIsNone(betterment(wishes, one))


if __name__ == "__main__":
    unittest.main()
