"""Point 25, of 3 what it says of tables parted, and the interface of ringtrade/parting.py."""

import random
import unittest
from fractions import Fraction
from math import gcd

from ringtrade.eating import eaten
from ringtrade.lots import lot, lot_of_ownings
from ringtrade.parting import mixed, parted
from ringtrade.tables import table_of
from tests import helper
from tests.helper import HALF, NOUGHT, ONE


def some_parts(many, seed, most=7):
    """Parts with fractions that sum to one, some with like dealings, the same ones each time."""
    source = random.Random(seed)
    told = []
    for turn in range(many):
        hands = turn % most + 1
        dealings = [tuple(source.sample(range(hands), hands)) for part in range(source.randint(1, 6))]
        weights = [source.randint(1, 9) for part in dealings]
        fractions = [helper.pair_of(Fraction(weight, sum(weights))) for weight in weights]
        told.append(list(zip(fractions, dealings)))
    return told


class MixedTest(unittest.TestCase):
    def test_one_part(self):
        self.assertEqual(mixed([(ONE, (0,))]), ((ONE,),))
        self.assertEqual(mixed([(ONE, (1, 2, 0))]), ((NOUGHT, ONE, NOUGHT), (NOUGHT, NOUGHT, ONE), (ONE, NOUGHT, NOUGHT)))

    def test_two_parts(self):
        third = (1, 3)
        self.assertEqual(
            mixed([(third, (0, 1)), ((2, 3), (1, 0))]),
            ((third, (2, 3)), ((2, 3), third)),
        )

    def test_several_parts_with_one_share_in_common(self):
        told = mixed([((1, 2), (0, 1, 2)), ((1, 3), (0, 2, 1)), ((1, 6), (1, 0, 2))])
        self.assertEqual(told, (((5, 6), (1, 6), NOUGHT), ((1, 6), HALF, (1, 3)), (NOUGHT, (1, 3), (2, 3))))

    def test_two_alike(self):
        self.assertEqual(mixed([((1, 4), (1, 0)), ((3, 4), (1, 0))]), helper.sure_table((1, 0)))
        self.assertEqual(mixed([((1, 4), (1, 0)), (HALF, (0, 1)), ((1, 4), (1, 0))]), helper.like_shares(2))

    def test_kinds(self):
        told = mixed([(HALF, (0, 1)), (HALF, (1, 0))])
        self.assertIsInstance(told, tuple)
        for row in told:
            self.assertIsInstance(row, tuple)
            self.assertTrue(all(isinstance(share, tuple) for share in row))

    def test_against_a_plain_reckoning(self):
        for parts in some_parts(350, 101):
            told = mixed(parts)
            self.assertEqual(told, helper.plain_mixed([(Fraction(*part), dealing) for part, dealing in parts]))
            self.assertEqual(table_of(told), told)

    def test_fractions_of_sixty_figures(self):
        great = 10 ** 60 - 1
        told = mixed([((1, great), (0, 1)), ((great - 1, great), (1, 0))])
        self.assertEqual(told, (((1, great), (great - 1, great)), ((great - 1, great), (1, great))))

    def test_what_is_handed_in_stays_and_asked_again_the_answer_is_the_same(self):
        for parts in some_parts(35, 102):
            helper.stays_and_is_told_again(self, mixed, parts)

    def test_parts_changed_later_change_nothing(self):
        parts = [(HALF, (0, 1)), (HALF, (1, 0))]
        told = mixed(parts)
        parts[0] = (ONE, (1, 0))
        parts.pop()
        self.assertEqual(told, helper.like_shares(2))


class PartedTest(unittest.TestCase):
    def asks(self, table):
        before = helper.copies(table)
        parts = parted(table)
        many = len(table)
        self.assertIsInstance(parts, list)
        self.assertLessEqual(len(parts), (many - 1) * (many - 1) + 1)
        for pair in parts:
            self.assertIsInstance(pair, tuple)
            self.asks_of_a_part(many, *pair)
        dealings = [dealing for part, dealing in parts]
        self.assertEqual(len(set(dealings)), len(dealings))
        worths = [Fraction(*part) for part, dealing in parts]
        self.assertEqual(sum(worths), 1)
        self.assertEqual(helper.plain_mixed(list(zip(worths, dealings))), table)
        self.assertEqual(mixed(parts), table)
        self.assertEqual(table, before)
        return parts

    def asks_of_a_part(self, many, part, dealing):
        self.assertIsInstance(part, tuple)
        self.assertIsInstance(dealing, tuple)
        self.assertGreater(part[0], 0)
        self.assertGreater(part[1], 0)
        self.assertEqual(gcd(*part), 1)
        self.assertEqual(sorted(dealing), list(range(many)))

    def test_one_hand(self):
        self.assertEqual(self.asks(((ONE,),)), [(ONE, (0,))])

    def test_a_table_of_one_dealing(self):
        for hands in range(1, 6):
            for dealing in helper.all_dealings(hands, hands):
                self.assertEqual(self.asks(helper.sure_table(dealing)), [(ONE, dealing)])

    def test_two_hands(self):
        for top in range(1, 7):
            rest = helper.pair_of(Fraction(7 - top, 7))
            parts = self.asks((((top, 7), rest), (rest, (top, 7))))
            self.assertEqual(sorted(parts), sorted([((top, 7), (0, 1)), (rest, (1, 0))]))

    def test_each_share_one_nth(self):
        for hands in range(1, 8):
            parts = self.asks(helper.like_shares(hands))
            self.assertGreaterEqual(len(parts), hands)

    def test_a_hand_that_must_make_room(self):
        # Where hands 0 and 1 come to things 0 and 1 first, hand 2, which has shares of these alone, finds none left.
        self.asks((((1, 4), (1, 4), HALF), ((1, 4), (1, 4), HALF), (HALF, HALF, NOUGHT)))
        self.asks(((HALF, NOUGHT, HALF), (NOUGHT, HALF, HALF), (HALF, HALF, NOUGHT)))

    def test_all_tables_of_small_parts(self):
        for hands, parts in ((1, 3), (2, 1), (2, 4), (2, 7), (3, 1), (3, 2), (3, 3), (3, 4), (3, 5)):
            for table in helper.all_tables(hands, parts):
                self.asks(table)

    def test_tables_mixed_of_up_to_nine_dealings(self):
        most = 0
        for wishes, table in helper.some_tables(700, 103, 7, 9):
            most = max(most, len(self.asks(table)))
        self.assertGreater(most, 9)

    def test_tables_of_many_unlike_shares(self):
        source = random.Random(104)
        for turn in range(70):
            hands = turn % 7 + 1
            dealings = [source.sample(range(hands), hands) for part in range(60)]
            weights = [source.randint(1, 10 ** 6) for part in dealings]
            worths = [Fraction(weight, sum(weights)) for weight in weights]
            self.asks(helper.plain_mixed(list(zip(worths, dealings))))

    def test_the_tables_of_the_lots(self):
        for wishes, owns, dealing in helper.some_square(100, 105, 5):
            self.asks(lot(wishes))
        for wishes, owns, dealing in helper.some_square(24, 106, 4):
            self.asks(lot_of_ownings(wishes))

    def test_the_eaten_tables(self):
        for wishes, owns, dealing in helper.some_square(350, 107):
            self.asks(eaten(wishes)[0])

    def test_as_many_parts_as_are_told_at_most(self):
        # Shares whose tops are unlike powers, so that no share is used up together with another one by chance.
        for hands in (2, 3, 4, 5):
            source = random.Random(hands)
            dealings = [source.sample(range(hands), hands) for part in range(hands ** 3)]
            worths = [Fraction(2 ** place) for place in range(len(dealings))]
            table = helper.plain_mixed([(worth / sum(worths), dealing) for worth, dealing in zip(worths, dealings)])
            self.assertEqual(len(self.asks(table)), (hands - 1) * (hands - 1) + 1)

    def test_fractions_of_sixty_figures(self):
        great = 10 ** 60 - 1
        self.asks((((1, great), (great - 1, great)), ((great - 1, great), (1, great))))

    def test_what_was_told_is_taken_again(self):
        for wishes, table in helper.some_tables(70, 108, 7, 9):
            self.assertEqual(self.asks(mixed(parted(table))), parted(table))

    def test_asked_again_the_answer_is_the_same_and_a_new_list(self):
        for wishes, table in helper.some_tables(35, 109, 7, 9):
            helper.stays_and_is_told_again(self, parted, table)
            first = parted(table)
            told = list(first)
            first.append((ONE, ()))
            first[0] = None
            self.assertEqual(parted(table), told)


if __name__ == "__main__":
    unittest.main()
