"""Point 26 and the interface of ringtrade/rules.py."""

import unittest

from ringtrade.eating import eaten
from ringtrade.errors import NoOrder, NotSquare, TooMany
from ringtrade.lots import lot
from ringtrade.orders import by_order
from ringtrade.rings import by_rings
from ringtrade.rules import ByEating, ByLot, ByOrder, ByRings, Rule
from ringtrade.texts import rows_read
from tests import helper
from tests.helper import HALF, NOUGHT, ONE

THREE = "A B C; A B C; A B C"


def whole_shares(dealing, things):
    """The table in which each hand has the share one of what it gets."""
    return tuple(tuple(ONE if got == thing else NOUGHT for thing in range(things)) for got in dealing)


class RuleTest(unittest.TestCase):
    def test_each_stands_straight_beneath_the_base(self):
        for rule in (ByRings, ByOrder, ByLot, ByEating):
            self.assertEqual(rule.__bases__, (Rule,))
        self.assertEqual(Rule.__bases__, (object,))

    def test_by_rings(self):
        wishes, owns = rows_read("B A*; A B*")
        rule = ByRings(owns)
        self.assertEqual(rule.sure(wishes), (1, 0))
        self.assertEqual(rule.shares(wishes), ((NOUGHT, ONE), (ONE, NOUGHT)))
        self.assertEqual(ByRings((None, None), [1, 0]).sure(helper.wishes_in("A B; A B")), (1, 0))
        self.assertEqual(ByRings((None, None)).sure(helper.wishes_in("A B; A B")), (0, 1))

    def test_by_order(self):
        wishes = helper.wishes_in("A B C; A C B")
        self.assertEqual(ByOrder([1, 0]).sure(wishes), (1, 0))
        self.assertEqual(ByOrder([1, 0]).shares(wishes), ((NOUGHT, ONE, NOUGHT), (ONE, NOUGHT, NOUGHT)))
        self.assertEqual(ByOrder().sure(wishes), (0, 2))
        self.assertEqual(ByOrder().shares(wishes), ((ONE, NOUGHT, NOUGHT), (NOUGHT, NOUGHT, ONE)))

    def test_by_lot_and_by_eating(self):
        wishes = helper.wishes_in("A B; A B")
        for rule in (ByLot(), ByEating()):
            self.assertEqual(rule.shares(wishes), ((HALF, HALF), (HALF, HALF)))
            self.assertIsNone(rule.sure(wishes))

    def test_one_hand(self):
        for wishes in (((0,),), helper.wishes_in("A")):
            for rule in (ByRings((0,)), ByRings((None,), [0]), ByOrder(), ByOrder([0]), ByLot(), ByEating()):
                self.assertEqual(rule.shares(wishes), ((ONE,),))

    def test_against_the_functions(self):
        for wishes, owns, order in helper.some_asked(210, 111):
            things = len(wishes[0])
            for one in (None, order):
                rule = ByRings(owns, one)
                self.assertEqual(rule.sure(wishes), by_rings(wishes, owns, one))
                self.assertEqual(rule.shares(wishes), whole_shares(by_rings(wishes, owns, one), things))
                rule = ByOrder(one)
                self.assertEqual(rule.sure(wishes), by_order(wishes, one))
                self.assertEqual(rule.shares(wishes), whole_shares(by_order(wishes, one), things))

    def test_shares_by_lot_against_the_function(self):
        for wishes, owns, order in helper.some_asked(35, 112):
            if len(wishes) < 6:
                self.assertEqual(ByLot().shares(wishes), lot(wishes))

    def test_shares_by_eating_against_the_function(self):
        for wishes, owns, dealing in helper.some_square(70, 113):
            self.assertEqual(ByEating().shares(wishes), eaten(wishes)[0])

    def test_one_rule_asked_of_several_wishes(self):
        rule = ByOrder()
        first, second = helper.wishes_in("A B; A B"), helper.wishes_in("C B A; C B A; A B C")
        self.assertEqual(rule.sure(first), (0, 1))
        self.assertEqual(rule.sure(second), (2, 1, 0))
        self.assertEqual(rule.sure(first), (0, 1))

    def test_what_is_handed_in_stays_and_asked_again_the_answer_is_the_same(self):
        wishes, owns = rows_read(THREE)
        for rule in (ByRings(owns, [2, 0, 1]), ByOrder([1, 2, 0]), ByOrder(), ByLot(), ByEating()):
            helper.stays_and_is_told_again(self, rule.shares, wishes)
            helper.stays_and_is_told_again(self, rule.sure, wishes)


class FieldsTest(unittest.TestCase):
    def test_what_they_are_made_of(self):
        rule = ByRings((0, None), [1, 0])
        self.assertEqual((rule.owns, rule.order), ((0, None), [1, 0]))
        rule = ByRings(order=[0, 1], owns=(None, 1))
        self.assertEqual((rule.owns, rule.order), ((None, 1), [0, 1]))
        self.assertEqual(ByOrder([1, 0]).order, [1, 0])
        self.assertEqual(ByOrder(order=[1, 0]).order, [1, 0])

    def test_none_stays_none(self):
        self.assertIsNone(ByRings((0,)).order)
        self.assertIsNone(ByRings((0,), None).order)
        self.assertIsNone(ByOrder().order)
        self.assertIsNone(ByOrder(None).order)

    def test_none_stays_none_when_it_was_asked(self):
        rule = ByRings((0, 1))
        rule.sure(helper.wishes_in("A B; B A"))
        self.assertIsNone(rule.order)

    def test_a_list_is_copied(self):
        owns, order = [0, None, 2], [2, 1, 0]
        rule = ByRings(owns, order)
        self.assertEqual((rule.owns, rule.order), ([0, None, 2], [2, 1, 0]))
        self.assertIsNot(rule.owns, owns)
        self.assertIsNot(rule.order, order)
        self.assertIsNot(ByOrder(order).order, order)

    def test_an_order_changed_behind_the_making(self):
        wishes, owns = rows_read(THREE)
        for make in (ByOrder, lambda one: ByRings(owns, one)):
            order = [2, 0, 1]
            rule = make(order)
            for spoil in (lambda: order.reverse(), lambda: order.append(7), order.clear):
                spoil()
                self.assertEqual(rule.sure(wishes), (1, 2, 0))
                self.assertEqual(rule.shares(wishes), whole_shares((1, 2, 0), 3))
                self.assertEqual(rule.order, [2, 0, 1])

    def test_owns_changed_behind_the_making(self):
        owns = [1, 0]
        rule = ByRings(owns)
        owns[0], owns[1] = 0, 1
        self.assertEqual(rule.sure(helper.wishes_in("A B; A B")), (1, 0))
        self.assertEqual(rule.owns, [1, 0])

    def test_two_rules_side_by_side(self):
        wishes = helper.wishes_in("A B; A B")
        first, second = ByOrder([0, 1]), ByOrder([1, 0])
        self.assertEqual((first.sure(wishes), second.sure(wishes)), ((0, 1), (1, 0)))


class RefusedTest(unittest.TestCase):
    def test_an_order_that_is_none_is_refused_when_asked_not_when_made(self):
        wishes, owns = rows_read(THREE)
        for ask in ("shares", "sure"):
            helper.refuses_what_is_no_order(self, lambda order: getattr(made(ByOrder, order), ask)(wishes))
            helper.refuses_what_is_no_order(self, lambda order: getattr(made(ByRings, owns, order), ask)(wishes))

    def test_one_rule_refused_of_some_wishes_and_not_of_others(self):
        for rule in (ByOrder([1, 0]), ByRings((None, None, None), [1, 0])):
            with self.assertRaises(NoOrder) as caught:
                rule.sure(helper.wishes_in(THREE))
            self.assertEqual(caught.exception.at, 2)
            self.assertEqual(rule.sure(helper.wishes_in("A B; A B")), (1, 0))

    def test_a_lot_of_six_and_seven_hands(self):
        for hands, things in ((6, 6), (6, 8), (7, 7), (7, 8)):
            wishes = (tuple(range(things)),) * hands
            with self.assertRaises(TooMany):
                ByLot().shares(wishes)
            self.assertIsNone(ByLot().sure(wishes))

    def test_a_lot_of_more_things_than_hands(self):
        self.assertEqual(ByLot().shares(((1, 0),)), ((NOUGHT, ONE),))

    def test_eating_with_more_things_than_hands(self):
        for hands, things in ((1, 2), (2, 8), (6, 8), (7, 8)):
            wishes = (tuple(range(things)),) * hands
            with self.assertRaises(NotSquare):
                ByEating().shares(wishes)
            self.assertIsNone(ByEating().sure(wishes))

    def test_sure_refuses_nothing_of_the_others(self):
        for wishes, owns, order in helper.some_asked(70, 114):
            self.assertIsNone(ByLot().sure(wishes))
            self.assertIsNone(ByEating().sure(wishes))


def made(rule, *arguments):
    """The rule, made ahead of what may be refused, so that a refusal of the making itself is seen."""
    try:
        return rule(*arguments)
    except ValueError as refusal:
        raise AssertionError("refused when it was made") from refusal


if __name__ == "__main__":
    unittest.main()
