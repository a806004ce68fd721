"""Point 27 and the interface of ringtrade/papers.py."""

import random
import unittest
from fractions import Fraction
from itertools import product

from ringtrade.bettering import betterment
from ringtrade.eating import eaten
from ringtrade.groups import goers
from ringtrade.lots import lot
from ringtrade.orders import by_order, order_behind
from ringtrade.papers import Betters, Goes, Handing, Ordered, Paper, Parted, Rising
from ringtrade.parting import mixed, parted
from ringtrade.rings import by_rings, rounds
from ringtrade.tables import can_hand, heights, share_ring, table_of
from tests import helper
from tests.helper import HALF, NOUGHT, ONE

GREAT = 10 ** 59

TWO = ((1, 0), (0, 1))
THREE = ((1, 0, 2), (0, 1, 2), (0, 1, 2))
MORE_THINGS = ((1, 0, 2), (0, 1, 2))

# One paper of each kind that shows something, with the wishes and what it shows it of.
SHOWING = (
    (Goes((0, 1), ((0, 1), (1, 0))), TWO, (0, 1)),
    (Ordered([1, 0]), TWO, (1, 0)),
    (Betters(("ring", (0, 1))), TWO, (0, 1)),
    (Rising((0, 0)), TWO, helper.sure_table((1, 0))),
    (Handing(((0, 0), (1, 1)), HALF), TWO, helper.like_shares(2)),
    (Parted([(HALF, (0, 1)), (HALF, (1, 0))]), TWO, helper.like_shares(2)),
)


def listed(thing):
    """The same with lists in the place of tuples, all through."""
    return [listed(one) for one in thing] if isinstance(thing, (list, tuple)) else thing


class PaperTest(unittest.TestCase):
    """Asks a paper and looks that it answers with a truth, and changes nothing."""

    def says(self, truth, paper, wishes, told):
        before = helper.copies((wishes, told, vars(paper)))
        self.assertIs(paper.shows(wishes, told), truth, (vars(paper), wishes, told))
        self.assertIs(paper.shows(wishes, told), truth)
        self.assertEqual((wishes, told, vars(paper)), before)


class KindsTest(PaperTest):
    def test_each_stands_straight_beneath_the_base(self):
        for kind in (Goes, Ordered, Betters, Rising, Handing, Parted):
            self.assertEqual(kind.__bases__, (Paper,))
        self.assertEqual(Paper.__bases__, (object,))

    def test_one_that_shows_of_each_kind(self):
        for paper, wishes, told in SHOWING:
            self.says(True, paper, wishes, told)

    def test_the_first_three_say_false_of_a_table(self):
        for paper, wishes, told in SHOWING[:3]:
            for table in (helper.sure_table((1, 0)), helper.sure_table((0, 1)), helper.like_shares(2)):
                self.says(False, paper, wishes, table)

    def test_the_others_say_false_of_a_dealing(self):
        for paper, wishes, told in SHOWING[3:]:
            self.says(False, paper, wishes, (1, 0))
            self.says(False, paper, wishes, (0, 1))

    def test_of_one_hand(self):
        for table in (((ONE,),), (0,)):
            whole = table != (0,)
            self.says(whole, Rising((0,)), ((0,),), table)
            self.says(whole, Parted([(ONE, (0,))]), ((0,),), table)
            self.says(not whole, Ordered((0,)), ((0,),), table)

    def test_more_things_than_hands(self):
        self.says(False, Goes((0, 1), ((0, 1), (1, 0))), MORE_THINGS, (0, 1))
        self.says(True, Ordered([1, 0]), MORE_THINGS, (1, 0))
        self.says(True, Betters(("ring", (0, 1))), MORE_THINGS, (0, 1))
        table = lot(MORE_THINGS)
        self.says(False, Ordered([1, 0]), MORE_THINGS, table)
        for told in (table, helper.like_shares(2), helper.like_shares(3), (1, 0)):
            for many in (2, 3):
                self.says(False, Rising(list(range(many))), MORE_THINGS, told)
                self.says(False, Rising((0,) * many), MORE_THINGS, told)
            self.says(False, Handing(((0, 0), (1, 1)), HALF), MORE_THINGS, told)
            self.says(False, Parted([(ONE, (1, 0))]), MORE_THINGS, told)
            self.says(False, Parted([(HALF, (0, 1)), (HALF, (1, 0))]), MORE_THINGS, told)

    def test_of_dealings_and_tables_of_other_wishes(self):
        self.says(False, Betters(("line", (0,), 1)), TWO, (0,))
        self.says(False, Betters(("ring", (0, 1))), THREE, (0, 1))
        self.says(False, Goes((0, 1), ((0, 1), (1, 0))), TWO, (0, 1, 2))
        self.says(False, Rising((0, 0)), TWO, helper.sure_table((0, 1, 2)))
        self.says(False, Rising((2, 1, 0)), TWO, helper.sure_table((0, 1, 2)))
        self.says(False, Parted([(ONE, (0,))]), TWO, ((ONE,),))

    def test_a_truth_stands_for_no_thing_of_a_dealing(self):
        for dealing in ((False, 1), (0, True)):
            self.says(False, Goes((0, 1), ((0, 1), (1, 0))), TWO, dealing)
            self.says(False, Betters(("ring", (0, 1))), TWO, dealing)
        for dealing in ((True, 0), (1, False), (True, False)):
            self.says(False, Ordered([1, 0]), TWO, dealing)
            for paper, wishes, told in SHOWING[3:]:
                self.says(False, paper, wishes, dealing)

    def test_a_truth_stands_for_no_number_of_a_table(self):
        shares = ((True, 1), NOUGHT), ((False, 1), ONE)
        self.says(False, Rising((0, 0)), ((0, 1), (1, 0)), shares)
        self.says(False, Parted([(ONE, (0, 1))]), ((0, 1), (1, 0)), shares)


class FieldsTest(unittest.TestCase):
    MADE = (
        (Goes, {"owns": (0, 1), "ring": ((0, 1), (1, 0))}),
        (Goes, {"owns": [0, None], "ring": [(0, 1), (1, 0)]}),
        (Ordered, {"order": [1, 0]}),
        (Ordered, {"order": (1, 0)}),
        (Betters, {"way": ("ring", (0, 1))}),
        (Betters, {"way": ("line", [0, 1], 2)}),
        (Betters, {"way": ["ring", [0, 1]]}),
        (Rising, {"heights": (0, 1)}),
        (Rising, {"heights": [0, 1]}),
        (Handing, {"ring": ((0, 0), (1, 1)), "part": (1, 2)}),
        (Handing, {"ring": [(0, 0), (1, 1)], "part": [1, 2]}),
        (Parted, {"parts": [((1, 2), (0, 1)), ((1, 2), [1, 0])]}),
        (Parted, {"parts": (((1, 2), [0, 1]), ((1, 2), (1, 0)))}),
    )

    def test_what_they_are_made_of(self):
        for kind, fields in self.MADE:
            with self.subTest(kind=kind, fields=fields):
                self.assertEqual(vars(kind(**fields)), fields)
                self.assertEqual(vars(kind(*fields.values())), fields)

    def test_lists_are_copied_all_through(self):
        for kind, fields in self.MADE:
            with self.subTest(kind=kind, fields=fields):
                handed_in = helper.copies(fields)
                paper = kind(**handed_in)
                for thing in handed_in.values():
                    spoil(thing)
                self.assertEqual(vars(paper), fields)


def spoil(thing):
    """Changes each list in it, the inner ones first."""
    if isinstance(thing, (list, tuple)):
        for one in thing:
            spoil(one)
    if isinstance(thing, list):
        thing.reverse()
        thing.append(9)


class ListsTest(PaperTest):
    MADE = (
        (Goes, ([0, 1], [(0, 1), (1, 0)]), (0, 1)),
        (Ordered, ([1, 0],), (1, 0)),
        (Betters, (["ring", [0, 1]],), (0, 1)),
        (Betters, (("ring", [0, 1]),), (0, 1)),
        (Rising, ([0, 0],), helper.sure_table((1, 0))),
        (Handing, ([(0, 0), (1, 1)], [1, 2]), helper.like_shares(2)),
        (Parted, ([((1, 2), [0, 1]), ((1, 2), [1, 0])],), helper.like_shares(2)),
        (Parted, ((((1, 2), [0, 1]), ((1, 2), [1, 0])),), helper.like_shares(2)),
    )

    def test_made_of_lists_and_of_tuples(self):
        for kind, made_of, told in self.MADE:
            self.says(True, kind(*made_of), TWO, told)
            self.says(True, kind(*listed(made_of)), TWO, told)

    def test_lists_changed_behind_the_making(self):
        for kind, made_of, told in self.MADE:
            handed_in = helper.copies(made_of)
            paper = kind(*handed_in)
            self.says(True, paper, TWO, told)
            for thing in handed_in:
                spoil(thing)
            self.says(True, paper, TWO, told)


class GoesTest(PaperTest):
    def test_what_goes(self):
        self.says(True, Goes((0, 1, 2), ((0, 1), (1, 0))), THREE, (0, 1, 2))
        self.says(True, Goes((0, 1, 2), ((0, 1), (1, 0))), THREE, (2, 0, 1))
        self.says(True, Goes((2, 1, 0), ((2, 0),)), THREE, (0, 1, 2))
        self.says(False, Goes((0, 1, 2), ((0, 1), (1, 0))), THREE, (1, 0, 2))
        self.says(False, Goes((0, 1, 2), ((1, 1),)), THREE, (1, 0, 2))

    def test_owns_that_are_none(self):
        ring = ((0, 1), (1, 0))
        for owns in (
            (0, 0), (1, 1), (0, 2), (2, 1), (-2, -1), (0, -1), (0, GREAT), (-GREAT, 1), (False, True), (0, True),
            (False, 1), (), (0,), (1,), (0, 1, 2), (0, 1, 0), (0, 1, None), (0, 1) * 150,
        ):
            self.says(False, Goes(owns, ring), TWO, (0, 1))
            self.says(False, Goes(list(owns), ring), TWO, (0, 1))
            self.says(False, Goes(owns, ((0, 0),)), TWO, (1, 0))

    def test_not_all_is_owned(self):
        for owns in ((0, None), (None, 1), (None, None)):
            for ring in (((0, 1), (1, 0)), ((0, 0),), ((1, 1),), ((0, None),), ()):
                self.says(False, Goes(owns, ring), TWO, (0, 1))
                self.says(False, Goes(owns, ring), TWO, (1, 0))

    def test_made_of_nothing(self):
        self.says(False, Goes((), ()), TWO, (0, 1))
        self.says(False, Goes([], []), ((0,),), (0,))
        self.says(False, Goes((0, 1), ()), TWO, (0, 1))
        self.says(False, Goes((0, 1), []), TWO, (0, 1))

    def test_a_ring_that_does_not_begin_with_its_least_hand(self):
        self.says(False, Goes((0, 1), ((1, 0), (0, 1))), TWO, (0, 1))

    def test_a_ring_gone_round_twice_and_a_hand_twice(self):
        ring = ((0, 1), (1, 0))
        self.says(False, Goes((0, 1), ring + ring), TWO, (0, 1))
        self.says(False, Goes((0, 1), ring * 100), TWO, (0, 1))
        self.says(False, Goes((0, 1), ((0, 0), (0, 0))), TWO, (1, 0))
        self.says(False, Goes((0, 1), ((0, 0), (0, 1), (1, 0))), TWO, (0, 1))

    def test_numbers_below_nought_and_far_beyond(self):
        for ring in (
            ((-2, 1), (-1, 0)), ((0, -1), (1, -2)), ((0, 1), (-1, 0)), ((-2, 1), (1, 0)), ((0, 1), (1, -2)),
            ((2, 1), (1, 0)), ((0, 2), (1, 0)), ((0, 1), (1, GREAT)), ((-GREAT, 1), (1, 0)), ((0, 1), (GREAT, 0)),
        ):
            self.says(False, Goes((0, 1), ring), TWO, (0, 1))

    def test_a_truth_is_no_hand_and_no_thing(self):
        for ring in (((False, 1), (1, 0)), ((0, True), (1, 0)), ((0, 1), (True, 0)), ((0, 1), (1, False))):
            self.says(False, Goes((0, 1), ring), TWO, (0, 1))

    def test_all_rings_of_pairs_of_small_numbers(self):
        pairs = list(product(range(-2, 3), repeat=2))
        rings = [ring for many in range(3) for ring in product(pairs, repeat=many)]
        for wishes, owns, dealing in product(helper.all_wishes(2, 2), helper.all_owned(2), helper.all_dealings(2, 2)):
            for ring in rings:
                truth = helper.plain_goes(wishes, owns, dealing, ring)
                self.assertIs(Goes(owns, ring).shows(wishes, dealing), truth)

    def test_each_ring_of_owns_of_three_hands(self):
        for owns in helper.all_owned(3):
            for ring in helper.rings_of_owns(owns):
                for wishes, dealing in product(helper.all_wishes(3, 3)[::5], helper.all_dealings(3, 3)):
                    truth = helper.plain_goes(wishes, owns, dealing, ring)
                    self.assertIs(Goes(owns, listed(ring)).shows(wishes, dealing), truth)

    def test_greater_ones_by_what_was_told(self):
        gone = 0
        for wishes, owns, dealing in helper.some_square(210, 121):
            told = goers(wishes, owns, dealing)
            for ring in [ring for rings in rounds(wishes, owns) for ring in rings]:
                self.says(helper.plain_goes(wishes, owns, dealing, ring), Goes(owns, ring), wishes, dealing)
                self.says(False, Goes(owns, ring), wishes, by_rings(wishes, owns))
            if told is not None:
                gone += 1
                self.says(True, Goes(list(owns), told), wishes, dealing)
        self.assertGreater(gone, 100)


class OrderedTest(PaperTest):
    def test_what_comes_by_it(self):
        self.says(True, Ordered([0, 1, 2]), THREE, (1, 0, 2))
        self.says(True, Ordered((2, 0, 1)), THREE, (1, 2, 0))
        self.says(False, Ordered([0, 1, 2]), THREE, (1, 2, 0))
        self.says(False, Ordered((2, 0, 1)), THREE, (0, 1, 2))

    def test_what_is_no_order(self):
        for order, at in helper.NO_ORDERS:
            if not any(isinstance(hand, (str, type(None))) for hand in order):
                for dealing in helper.all_dealings(3, 3):
                    self.says(False, Ordered(order), THREE, dealing)
                    self.says(False, Ordered(tuple(order)), THREE, dealing)

    def test_hands_told_by_numbers_less_by_the_count(self):
        for order in ([-3, -2, -1], [0, 1, -1], [-3, 1, 2], [0, -2, 2]):
            for dealing in helper.all_dealings(3, 3):
                self.says(False, Ordered(order), THREE, dealing)

    def test_made_of_nothing(self):
        for wishes, dealing in ((((0,),), (0,)), (TWO, (1, 0)), (THREE, (1, 0, 2))):
            self.says(False, Ordered([]), wishes, dealing)
            self.says(False, Ordered(()), wishes, dealing)

    def test_none_is_the_hands_as_they_are_counted(self):
        self.says(True, Ordered(None), THREE, (1, 0, 2))
        self.says(False, Ordered(None), THREE, (1, 2, 0))

    def test_all_small_ones(self):
        for hands, things in ((1, 1), (1, 2), (2, 2), (2, 3), (3, 3)):
            for wishes in helper.all_wishes(hands, things):
                for order in helper.all_orders(hands):
                    comes = helper.plain_by_order(wishes, order)
                    for dealing in helper.all_dealings(hands, things):
                        self.assertIs(Ordered(order).shows(wishes, dealing), dealing == comes)

    def test_greater_ones_by_what_was_told(self):
        for wishes, owns, order in helper.some_asked(210, 122):
            self.says(True, Ordered(order), wishes, by_order(wishes, order))
            dealing = by_rings(wishes, owns, order)
            self.says(True, Ordered(order_behind(wishes, dealing)), wishes, dealing)
            self.says(by_order(wishes, order) == dealing, Ordered(order), wishes, dealing)


class BettersTest(PaperTest):
    def test_rings(self):
        self.says(True, Betters(("ring", (0, 1))), THREE, (0, 1, 2))
        self.says(True, Betters(("ring", (1, 0))), THREE, (0, 1, 2))
        self.says(False, Betters(("ring", (0, 1))), THREE, (1, 0, 2))
        self.says(False, Betters(("ring", (0, 2))), THREE, (0, 1, 2))
        self.says(False, Betters(("ring", (0,))), THREE, (0, 1, 2))

    def test_lines(self):
        self.says(True, Betters(("line", (0,), 1)), MORE_THINGS, (2, 0))
        self.says(True, Betters(("line", (1, 0), 1)), MORE_THINGS, (0, 2))
        self.says(False, Betters(("line", (0, 1), 1)), MORE_THINGS, (0, 2))
        self.says(False, Betters(("line", (0,), 0)), MORE_THINGS, (2, 0))
        self.says(False, Betters(("line", (0,), 2)), MORE_THINGS, (0, 1))
        self.says(False, Betters(("line", (1,), 1)), MORE_THINGS, (2, 0))

    def test_a_line_to_a_thing_that_is_not_left_over(self):
        self.says(False, Betters(("line", (0,), 1)), TWO, (0, 1))
        self.says(False, Betters(("line", (0, 1), 0)), TWO, (0, 1))
        self.says(False, Betters(("line", (1,), 0)), MORE_THINGS, (0, 2))

    def test_made_of_nothing(self):
        for wishes, dealing in ((TWO, (0, 1)), (MORE_THINGS, (2, 1))):
            for hands in ((), []):
                self.says(False, Betters(("ring", hands)), wishes, dealing)
                for thing in (0, 1, 2):
                    self.says(False, Betters(("line", hands, thing)), wishes, dealing)
            self.says(False, Betters(()), wishes, dealing)

    def test_other_words_and_too_few_or_too_many_things(self):
        for way in (("ring",), ("ring", (0, 1), 1), ("line", (0,)), ("rings", (0, 1)), ("", (0, 1)), (0, (0, 1))):
            self.says(False, Betters(way), TWO, (0, 1))
            self.says(False, Betters(list(way)), TWO, (0, 1))

    def test_a_hand_twice_and_a_ring_gone_round_twice(self):
        for hands in ((0, 1, 0, 1), (0, 0), (0, 1, 1), (0, 0, 1), (0, 1) * 100):
            self.says(False, Betters(("ring", hands)), TWO, (0, 1))
        self.says(False, Betters(("line", (0, 0), 1)), MORE_THINGS, (2, 0))

    def test_numbers_below_nought_and_far_beyond(self):
        for hands in ((-2, -1), (0, -1), (-2, 1), (0, 2), (0, GREAT), (-GREAT, 1), (3, 1)):
            self.says(False, Betters(("ring", hands)), TWO, (0, 1))
        for hands, thing in (((0,), -2), ((0,), 3), ((0,), GREAT), ((0,), -GREAT), ((-2,), 1), ((2,), 1), ((-1,), 1)):
            self.says(False, Betters(("line", hands, thing)), MORE_THINGS, (2, 0))

    def test_a_truth_is_no_hand_and_no_thing(self):
        for hands in ((False, 1), (0, True), (False, True)):
            self.says(False, Betters(("ring", hands)), TWO, (0, 1))
        self.says(False, Betters(("line", (0,), True)), MORE_THINGS, (2, 0))
        self.says(False, Betters(("line", (False,), 1)), MORE_THINGS, (2, 0))

    def test_all_ways_of_small_numbers(self):
        for hands, things in ((1, 1), (1, 2), (2, 2), (2, 3)):
            rings = [ring for many in range(4) for ring in product(range(-1, hands + 1), repeat=many)]
            ways = [("ring", ring) for ring in rings]
            ways += [("line", ring, thing) for ring in rings for thing in range(-1, things + 1)]
            for wishes, dealing in product(helper.all_wishes(hands, things), helper.all_dealings(hands, things)):
                there = helper.all_ways(wishes, dealing)
                for way in ways:
                    self.assertIs(Betters(way).shows(wishes, dealing), way in there)

    def test_all_ways_of_three_hands(self):
        for wishes, dealing in product(helper.all_wishes(3, 3)[::4], helper.all_dealings(3, 3)):
            there = helper.all_ways(wishes, dealing)
            for ring in helper.all_rings_of_hands(3):
                self.assertIs(Betters(("ring", list(ring))).shows(wishes, dealing), ("ring", ring) in there)

    def test_greater_ones_by_what_was_told(self):
        told = {"ring": 0, "line": 0}
        asked = [(wishes, dealing) for wishes, owns, dealing in helper.some_square(210, 123)]
        for wishes, dealing in asked + helper.some_dealings(210, 124):
            way = betterment(wishes, dealing)
            if way is not None:
                told[way[0]] += 1
                self.says(True, Betters(way), wishes, dealing)
                self.says(True, Betters(listed(way)), wishes, dealing)
        self.assertGreater(min(told.values()), 100)


class RisingTest(PaperTest):
    def test_heights(self):
        table = helper.like_shares(3)
        wishes = ((0, 1, 2),) * 3
        self.assertEqual(heights(wishes, table), (2, 1, 0))
        self.says(True, Rising((2, 1, 0)), wishes, table)
        self.says(True, Rising([2, 1, 0]), wishes, table)

    def test_heights_that_are_not_the_least(self):
        wishes = ((0, 1, 2),) * 3
        for told in ((3, 1, 0), (3, 2, 1), (GREAT, 7, 0), (GREAT + 2, GREAT + 1, GREAT)):
            self.says(True, Rising(told), wishes, helper.like_shares(3))
        self.says(True, Rising((5, 0)), TWO, helper.sure_table((1, 0)))

    def test_heights_that_do_not_rise(self):
        wishes = ((0, 1, 2),) * 3
        for told in ((1, 1, 0), (2, 0, 0), (2, 1, 1), (0, 1, 2), (0, 0, 0), (2, 3, 0), (3, 1, 2)):
            self.says(False, Rising(told), wishes, helper.like_shares(3))

    def test_too_few_and_too_many(self):
        wishes = ((0, 1, 2),) * 3
        for told in ((2, 1), (2,), (2, 1, 0, 0), (3, 2, 1, 0), (2, 1, 0) * 100):
            self.says(False, Rising(told), wishes, helper.like_shares(3))
        # None need rise here, but there must be one for each thing.
        for told in ((0,), (0, 0, 0)):
            self.says(False, Rising(told), TWO, helper.sure_table((1, 0)))

    def test_made_of_nothing(self):
        for told in ((), []):
            self.says(False, Rising(told), TWO, helper.sure_table((1, 0)))
            self.says(False, Rising(told), ((0,),), ((ONE,),))

    def test_below_nought(self):
        wishes = ((0, 1, 2),) * 3
        for told in ((1, 0, -1), (2, 1, -1), (-1, -2, -3), (GREAT, 0, -GREAT)):
            self.says(False, Rising(told), wishes, helper.like_shares(3))
        self.says(False, Rising((0, -1)), TWO, helper.sure_table((1, 0)))
        self.says(False, Rising((-1,)), ((0,),), ((ONE,),))

    def test_a_truth_is_no_height(self):
        self.says(False, Rising((2, True, 0)), ((0, 1, 2),) * 3, helper.like_shares(3))
        self.says(False, Rising((2, 1, False)), ((0, 1, 2),) * 3, helper.like_shares(3))
        self.says(False, Rising((False,)), ((0,),), ((ONE,),))

    def test_where_there_are_none(self):
        for told in product(range(4), repeat=2):
            self.says(False, Rising(told), TWO, helper.like_shares(2))
            self.says(False, Rising(told), TWO, helper.sure_table((0, 1)))

    def test_all_small_ones(self):
        for hands, parts, every in ((1, 1, 1), (2, 1, 1), (2, 2, 1), (2, 3, 1), (3, 1, 5), (3, 2, 5)):
            for wishes, table in product(helper.all_wishes(hands, hands)[::every], helper.all_tables(hands, parts)):
                for told in product(range(-1, hands + 1), repeat=hands):
                    truth = min(told) >= 0 and helper.are_heights(wishes, table, told)
                    self.assertIs(Rising(told).shows(wishes, table), truth)

    def test_greater_ones_by_what_was_told(self):
        for wishes, owns, dealing in helper.some_square(140, 125):
            table = eaten(wishes)[0]
            told = heights(wishes, table)
            self.says(True, Rising(told), wishes, table)
            self.says(True, Rising([3 * height + 1 for height in told]), wishes, table)
            for thing, height in enumerate(told):
                # The told ones are the least, so a lesser one for a thing that is risen to shows nothing.
                lesser = told[:thing] + (height - 1,) + told[thing + 1:]
                self.says(False, Rising(lesser), wishes, table)


class HandingTest(PaperTest):
    # Hand 0 has halves of B and C and likes A best, hand 1 halves of A and B, and likes C best.
    WISHES = ((0, 1, 2), (2, 0, 1), (0, 1, 2))
    TABLE = ((NOUGHT, HALF, HALF), (HALF, HALF, NOUGHT), (HALF, NOUGHT, HALF))

    def test_rings_that_can_be_handed_on(self):
        for ring in (((0, 2), (1, 0)), ((0, 2), (1, 1)), ((0, 2), (0, 1), (1, 0)), ((2, 2), (1, 0))):
            self.assertTrue(helper.is_share_ring(self.WISHES, self.TABLE, ring))
            for part in (HALF, (1, 3), (1, GREAT)):
                self.says(True, Handing(ring, part), self.WISHES, self.TABLE)

    def test_it_may_begin_anywhere(self):
        for ring in (((0, 2), (0, 1), (1, 0)), ((0, 1), (1, 0), (0, 2)), ((1, 0), (0, 2), (0, 1))):
            self.says(True, Handing(ring, HALF), self.WISHES, self.TABLE)

    def test_a_hand_that_stands_in_it_twice(self):
        self.says(True, Handing(((0, 2), (0, 1), (1, 0)), HALF), self.WISHES, self.TABLE)

    def test_a_thing_twice_and_a_ring_gone_round_twice(self):
        ring = ((0, 2), (1, 0))
        self.says(False, Handing(ring + ring, HALF), self.WISHES, self.TABLE)
        self.says(False, Handing(ring * 100, HALF), self.WISHES, self.TABLE)
        self.says(False, Handing(((0, 2), (1, 0), (2, 2), (1, 0)), HALF), self.WISHES, self.TABLE)
        self.says(False, Handing(((0, 2), (1, 0), (2, 2), (1, 1)), HALF), self.WISHES, self.TABLE)

    def test_one_pair_and_none(self):
        for ring in (((0, 2),), ((0, 1),), ((0, 0),), (), []):
            self.says(False, Handing(ring, HALF), self.WISHES, self.TABLE)
        self.says(False, Handing((), HALF), ((0,),), ((ONE,),))
        self.says(False, Handing(((0, 0),), ONE), ((0,),), ((ONE,),))

    def test_a_share_of_nought(self):
        # Hand 1 likes C best, but hand 0 has no share of A.
        self.says(False, Handing(((0, 0), (1, 1)), HALF), self.WISHES, self.TABLE)
        self.says(False, Handing(((2, 1), (1, 0)), HALF), self.WISHES, self.TABLE)

    def test_a_thing_that_is_not_liked_better(self):
        self.says(False, Handing(((2, 0), (0, 1)), HALF), self.WISHES, self.TABLE)
        self.says(False, Handing(((1, 0), (0, 1)), HALF), self.WISHES, self.TABLE)
        self.says(False, Handing(((0, 0), (1, 1)), HALF), ((0, 1), (0, 1)), helper.like_shares(2))

    def test_a_fraction_not_in_lowest_terms(self):
        ring = ((0, 2), (1, 0))
        for part in ((2, 4), (3, 6), (2, 8), (GREAT, 2 * GREAT)):
            self.says(True, Handing(ring, part), self.WISHES, self.TABLE)
            self.says(True, Handing(ring, list(part)), self.WISHES, self.TABLE)
        for part in ((3, 4), (6, 10), (0, 7), (-2, 4)):
            self.says(False, Handing(ring, part), self.WISHES, self.TABLE)

    def test_a_fraction_of_nought_and_below(self):
        for part in (NOUGHT, (0, 5), (-1, 2), (-1, GREAT), (-GREAT, 1)):
            self.says(False, Handing(((0, 2), (1, 0)), part), self.WISHES, self.TABLE)

    def test_a_fraction_greater_than_what_can_be_handed_on(self):
        for part in (ONE, (2, 3), (GREAT + 1, 2 * GREAT), (GREAT, 1)):
            self.says(False, Handing(((0, 2), (1, 0)), part), self.WISHES, self.TABLE)

    def test_a_bottom_below_one(self):
        for part in ((1, 0), (0, 0), (-1, -2), (1, -2), (-1, -GREAT), (0, -1), (-1, 0)):
            self.says(False, Handing(((0, 2), (1, 0)), part), self.WISHES, self.TABLE)
            self.says(False, Handing(((0, 2), (1, 0)), list(part)), self.WISHES, self.TABLE)

    def test_the_least_share_is_what_can_be_handed_on(self):
        table = (((1, 3), (2, 3)), ((2, 3), (1, 3)))
        for part, truth in (((1, 3), True), ((1, 4), True), ((2, 5), False), ((2, 3), False)):
            self.says(truth, Handing(((0, 0), (1, 1)), part), TWO, table)
        table = (((1, 5), (4, 5), NOUGHT), (NOUGHT, (1, 5), (4, 5)), ((4, 5), NOUGHT, (1, 5)))
        wishes = ((1, 0, 2), (2, 1, 0), (0, 2, 1))
        for part, truth in (((1, 5), True), ((1, 4), False)):
            self.says(truth, Handing(((0, 0), (1, 1), (2, 2)), part), wishes, table)

    def test_numbers_below_nought_and_far_beyond(self):
        for ring in (
            ((-3, 2), (1, 0)), ((0, -1), (1, 0)), ((0, 2), (-2, 0)), ((0, 2), (1, -3)), ((3, 2), (1, 0)),
            ((0, 2), (1, 3)), ((GREAT, 2), (1, 0)), ((0, GREAT), (1, 0)), ((-GREAT, 2), (1, 0)), ((0, 2), (1, -GREAT)),
        ):
            self.says(False, Handing(ring, HALF), self.WISHES, self.TABLE)

    def test_a_truth_is_no_hand_no_thing_and_no_number(self):
        for ring in (((False, 2), (1, 0)), ((0, 2), (True, 0)), ((0, 2), (1, False)), ((0, 2), (1, True))):
            self.says(False, Handing(ring, HALF), self.WISHES, self.TABLE)
        for part in ((True, 2), (True, True), (1, True)):
            self.says(False, Handing(((0, 2), (1, 0)), part), self.WISHES, self.TABLE)
        self.says(False, Handing(((0, 0), (1, 1)), (1, True)), TWO, helper.sure_table((0, 1)))

    def test_all_rings_of_pairs_of_small_numbers(self):
        pairs = list(product(range(-1, 3), repeat=2))
        rings = [ring for many in range(3) for ring in product(pairs, repeat=many)]
        for wishes, table in product(helper.all_wishes(2, 2), helper.all_tables(2, 2)):
            there = helper.all_share_rings(wishes, table)
            for ring in rings:
                most = Fraction(*can_hand(table, ring)) if ring in there else 0
                for part in ((-1, 2), (0, 1), (1, 2), (1, 1), (3, 2)):
                    truth = 0 < Fraction(*part) <= most
                    self.assertIs(Handing(ring, part).shows(wishes, table), truth)

    def test_all_rings_of_pairs_of_three_hands(self):
        pairs = list(product(range(3), repeat=2))
        rings = [ring for many in range(4) for ring in product(pairs, repeat=many)]
        tables = helper.all_tables(3, 2)
        for wishes, table in list(product(helper.all_wishes(3, 3), tables))[::211]:
            there = helper.all_share_rings(wishes, table)
            for ring in rings:
                self.assertIs(Handing(ring, HALF).shows(wishes, table), ring in there)

    def test_greater_ones_by_what_was_told(self):
        shown = 0
        for wishes, table in helper.some_tables(210, 126):
            ring = share_ring(wishes, table)
            if ring is not None:
                shown += 1
                most = can_hand(table, ring)
                self.says(True, Handing(ring, most), wishes, table)
                self.says(True, Handing(list(ring), (most[0], 3 * most[1])), wishes, table)
                self.says(False, Handing(ring, (most[0] * 3 + 1, most[1] * 3)), wishes, table)
        self.assertGreater(shown, 70)


def plain_parted(parts):
    """The table of two hands to which at most two parts mix, or None where they are no such parts."""
    if not parts or any(top < 1 or bottom < 1 or sorted(dealing) != [0, 1] for (top, bottom), dealing in parts):
        return None
    if len({dealing for part, dealing in parts}) < len(parts):
        return None
    return helper.plain_mixed([(Fraction(*part), dealing) for part, dealing in parts])


class PartedTest(PaperTest):
    HALVES = [(HALF, (0, 1)), (HALF, (1, 0))]

    def test_parts_that_mix_to_it(self):
        self.says(True, Parted([(ONE, (0,))]), ((0,),), ((ONE,),))
        self.says(True, Parted([(ONE, (1, 0))]), TWO, helper.sure_table((1, 0)))
        self.says(True, Parted(self.HALVES[::-1]), TWO, helper.like_shares(2))
        third = (1, 3)
        for parts in (
            [(third, (0, 1, 2)), (third, (1, 2, 0)), (third, (2, 0, 1))],
            [(third, (0, 2, 1)), (third, (1, 0, 2)), (third, (2, 1, 0))],
        ):
            self.says(True, Parted(parts), THREE, helper.like_shares(3))

    def test_parts_that_do_not_mix_to_it(self):
        self.says(False, Parted(self.HALVES), TWO, helper.sure_table((1, 0)))
        self.says(False, Parted([(ONE, (0, 1))]), TWO, helper.sure_table((1, 0)))
        self.says(False, Parted([((1, 3), (0, 1)), ((2, 3), (1, 0))]), TWO, helper.like_shares(2))
        self.says(False, Parted(self.HALVES[:1]), TWO, helper.like_shares(2))
        self.says(False, Parted([(HALF, (0, 1)), (HALF, (1, 0))]), THREE, helper.like_shares(3))

    def test_made_of_nothing(self):
        for parts in ([], ()):
            self.says(False, Parted(parts), TWO, helper.like_shares(2))
            self.says(False, Parted(parts), ((0,),), ((ONE,),))
        self.says(False, Parted([(ONE, ())]), TWO, helper.like_shares(2))
        self.says(False, Parted([(ONE, ())]), ((0,),), ((ONE,),))

    def test_parts_alike(self):
        self.says(False, Parted([(HALF, (1, 0)), (HALF, (1, 0))]), TWO, helper.sure_table((1, 0)))
        self.says(False, Parted([((1, 4), (0, 1)), ((1, 4), (0, 1)), (HALF, (1, 0))]), TWO, helper.like_shares(2))
        self.says(False, Parted([(HALF, (1, 2, 0)), (HALF, [1, 2, 0])]), THREE, helper.sure_table((1, 2, 0)))

    def test_as_many_as_told_and_one_too_many(self):
        # All six dealings of three hands, of which five are enough for any table.
        dealings = helper.all_dealings(3, 3)
        parts = [((1, 6), dealing) for dealing in dealings]
        self.assertEqual(mixed(parts), helper.like_shares(3))
        self.says(False, Parted(parts), THREE, helper.like_shares(3))
        parts = [((k + 1, 15), dealing) for k, dealing in enumerate(dealings[:5])]
        self.says(True, Parted(parts), THREE, mixed(parts))

    def test_as_many_as_told_and_one_too_many_of_four_hands(self):
        source = random.Random(127)
        for turn in range(20):
            dealings = source.sample(helper.all_dealings(4, 4), 11)
            for many in (9, 10, 11):
                parts = [((1, many), dealing) for dealing in dealings[:many]]
                self.says(many <= 10, Parted(parts), ((0, 1, 2, 3),) * 4, mixed(parts))

    def test_fractions_not_in_lowest_terms(self):
        self.says(True, Parted([((2, 4), (0, 1)), ((3, 6), (1, 0))]), TWO, helper.like_shares(2))
        self.says(True, Parted([((7, 7), (1, 0))]), TWO, helper.sure_table((1, 0)))
        self.says(False, Parted([((2, 6), (0, 1)), ((3, 6), (1, 0))]), TWO, helper.like_shares(2))

    def test_fractions_of_nought_and_below(self):
        self.says(False, Parted([(ONE, (1, 0)), (NOUGHT, (0, 1))]), TWO, helper.sure_table((1, 0)))
        self.says(False, Parted([(ONE, (1, 0)), ((0, 9), (0, 1))]), TWO, helper.sure_table((1, 0)))
        self.says(False, Parted([((3, 2), (0, 1)), ((-1, 2), (1, 0))]), TWO, helper.like_shares(2))
        # One part is below nought, but what it takes away the others have given: they mix to a table of shares.
        third = (1, 3)
        parts = [(third, dealing) for dealing in ((0, 1, 2), (1, 2, 0), (2, 0, 1), (0, 2, 1))]
        parts.append(((-1, 3), (1, 0, 2)))
        self.assertEqual(table_of(mixed(parts)), mixed(parts))
        self.says(False, Parted(parts), THREE, mixed(parts))

    def test_a_bottom_below_one(self):
        for wrong in ((-1, -2), (1, 0), (0, 0), (1, -2), (-1, 0)):
            self.says(False, Parted([(HALF, (0, 1)), (wrong, (1, 0))]), TWO, helper.like_shares(2))
            self.says(False, Parted([(wrong, (0, 1)), (HALF, (1, 0))]), TWO, helper.like_shares(2))
        self.says(False, Parted([((-1, -1), (1, 0))]), TWO, helper.sure_table((1, 0)))

    def test_dealings_that_are_none(self):
        for dealing in (
            (-1, -2), (1, -2), (-1, 0), (1, 2), (2, 0), (1, 1), (0, 0), (1, GREAT), (-GREAT, 0), (1,), (), (1, 0, 2),
            (1, 0, 0), (1, 0) * 150, (True, 0), (1, False), (True, False),
        ):
            self.says(False, Parted([(ONE, dealing)]), TWO, helper.sure_table((1, 0)))
            self.says(False, Parted([(HALF, (0, 1)), (HALF, dealing)]), TWO, helper.like_shares(2))
            self.says(False, Parted([(HALF, list(dealing)), (HALF, (0, 1))]), TWO, helper.like_shares(2))

    def test_a_truth_is_no_number(self):
        self.says(False, Parted([((True, 1), (1, 0))]), TWO, helper.sure_table((1, 0)))
        self.says(False, Parted([((1, True), (1, 0))]), TWO, helper.sure_table((1, 0)))

    def test_parts_of_other_sizes(self):
        self.says(False, Parted(self.HALVES), ((0,),), ((ONE,),))
        self.says(False, Parted([(ONE, (0,))]), TWO, helper.sure_table((0, 1)))
        self.says(False, Parted([(ONE, (0, 1, 2))]), TWO, helper.sure_table((0, 1)))

    def test_all_parts_of_small_numbers(self):
        fractions = [(top, bottom) for bottom in (0, 1, 2) for top in (-1, 0, 1, 2)]
        pairs = list(product(fractions, ((0, 1), (1, 0), (0, 0), (-1, 0), (0,))))
        tables = helper.all_tables(2, 2)
        for parts in [parts for many in range(3) for parts in product(pairs, repeat=many)]:
            comes = plain_parted(parts)
            for table in tables:
                self.assertIs(Parted(parts).shows(TWO, table), table == comes)

    def test_greater_ones_by_what_was_told(self):
        for wishes, table in helper.some_tables(210, 128, 7, 9):
            parts = parted(table)
            self.says(True, Parted(parts), wishes, table)
            self.says(True, Parted(listed(parts)), wishes, table)
            self.says(False, Parted(parts[1:]), wishes, table)
            self.says(False, Parted(parts + parts[:1]), wishes, table)
            doubled = [((2 * part[0], 2 * part[1]), dealing) for part, dealing in parts]
            self.says(True, Parted(tuple(doubled)), wishes, table)

    def test_a_part_written_as_two_halves(self):
        for wishes, table in helper.some_tables(70, 129, 7, 2):
            parts = parted(table)
            part, dealing = parts[0]
            halves = [((part[0], 2 * part[1]), dealing)] * 2
            self.assertEqual(mixed(halves + parts[1:]), table)
            self.says(False, Parted(halves + parts[1:]), wishes, table)


if __name__ == "__main__":
    unittest.main()
