"""Points 20 and 21, of 3 and 19 what they say of eating, and the interface of ringtrade/eating.py."""

import unittest
from fractions import Fraction
from itertools import product
from math import lcm

from ringtrade.eating import eaten, no_less, sums_along
from ringtrade.errors import NotSquare
from ringtrade.tables import heights
from tests import helper


def plain_eaten(wishes):
    """Point 20, from each time at which things are eaten up to the next one."""
    hands = range(len(wishes))
    left = {thing: Fraction(1) for thing in hands}
    table = [[Fraction(0)] * len(wishes) for hand in hands]
    log = []
    now = Fraction(0)
    while left:
        best = [min(left, key=row.index) for row in wishes]
        span = min(left[thing] / best.count(thing) for thing in best)
        now += span
        for hand in hands:
            table[hand][best[hand]] += span
            left[best[hand]] -= span
        log.append((helper.pair_of(now), tuple(sorted(thing for thing in left if left[thing] == 0))))
        left = {thing: share for thing, share in left.items() if share}
    return (helper.plain_table(table), log)


def bite_by_bite(wishes, bites):
    """The table where each thing is so many bites and each hand eats them one by one, all at once."""
    hands = range(len(wishes))
    left = [bites] * len(wishes)
    eaten_up = [[0] * len(wishes) for hand in hands]
    for bite in range(bites):
        best = [[thing for thing in row if left[thing] > 0][0] for row in wishes]
        for hand in hands:
            left[best[hand]] -= 1
            eaten_up[hand][best[hand]] += 1
        if min(left) < 0:
            return None
    return helper.plain_table([[Fraction(many, bites) for many in row] for row in eaten_up])


class EatenTest(unittest.TestCase):
    def test_one_hand(self):
        self.assertEqual(eaten(helper.wishes_in("A")), ((((1, 1),),), [((1, 1), (0,))]))

    def test_unlike_best_things_are_eaten_up_at_one_time(self):
        table, log = eaten(helper.wishes_in("B A C; C B A; A C B"))
        self.assertEqual(table, (((0, 1), (1, 1), (0, 1)), ((0, 1), (0, 1), (1, 1)), ((1, 1), (0, 1), (0, 1))))
        self.assertEqual(log, [((1, 1), (0, 1, 2))])

    def test_like_rows(self):
        for hands in range(1, 8):
            table, log = eaten((tuple(range(hands)),) * hands)
            self.assertEqual(table, (((1, hands),) * hands,) * hands)
            times = [helper.pair_of(Fraction(k + 1, hands)) for k in range(hands)]
            self.assertEqual(log, [(time, (thing,)) for thing, time in enumerate(times)])

    def test_two_hands_that_eat_of_one_thing_and_one_that_comes_later(self):
        table, log = eaten(helper.wishes_in("A B C; A C B; B A C"))
        self.assertEqual(table, (((1, 2), (1, 4), (1, 4)), ((1, 2), (0, 1), (1, 2)), ((0, 1), (3, 4), (1, 4))))
        self.assertEqual(log, [((1, 2), (0,)), ((3, 4), (1,)), ((1, 1), (2,))])

    def test_several_things_eaten_up_at_one_time_ahead_of_the_end(self):
        half, nought = (1, 2), (0, 1)
        rows = ((half, nought, half, nought), (nought, half, nought, half))
        table, log = eaten(helper.wishes_in("B A D C; A B C D; B A D C; A B C D"))
        self.assertEqual(table, (rows[1], rows[0], rows[1], rows[0]))
        self.assertEqual(log, [((1, 2), (0, 1)), ((1, 1), (2, 3))])

    def test_more_things_than_hands_are_refused(self):
        for hands in range(1, 8):
            for things in range(hands + 1, 9):
                with self.assertRaises(NotSquare):
                    eaten((tuple(range(things)),) * hands)

    def asks(self, wishes):
        told = eaten(wishes)
        self.assertIsInstance(told, tuple)
        self.assertEqual(told, plain_eaten(wishes))
        table, log = told
        hands = len(wishes)
        rows = [helper.worths(shares) for shares in table]
        self.assertEqual([sum(row) for row in rows], [1] * hands)
        self.assertEqual([sum(column) for column in zip(*rows)], [1] * hands)
        self.assertGreaterEqual(min(share for row in rows for share in row), 0)
        self.asks_of_the_log(log, hands)
        self.assertTrue(helper.has_like_shares_for_like_rows(wishes, table))
        for hand, other in product(range(hands), repeat=2):
            self.assertIs(no_less(wishes, hand, table[hand], table[other]), True)
        self.assertIsNotNone(heights(wishes, table))

    def asks_of_the_log(self, log, hands):
        self.assertIsInstance(log, list)
        times = [Fraction(*time) for time, things in log]
        self.assertTrue(all(one < other for one, other in zip([Fraction(0)] + times, times)))
        self.assertEqual(times[-1], 1)
        for time, things in log:
            self.assertIsInstance(things, tuple)
            self.assertTrue(things)
            self.assertEqual(list(things), sorted(things))
        self.assertEqual(sorted(thing for time, things in log for thing in things), list(range(hands)))

    def test_all_small_wishes(self):
        for hands in (1, 2, 3):
            for wishes in helper.all_wishes(hands, hands):
                self.asks(wishes)

    def test_greater_ones(self):
        for wishes, owns, dealing in helper.some_square(350, 61):
            self.asks(wishes)
        for wishes in helper.some_with_like_rows(210, 62):
            self.asks(wishes)

    def test_bite_by_bite(self):
        asked = [wishes for hands in (1, 2, 3) for wishes in helper.all_wishes(hands, hands)]
        asked += [wishes for wishes, owns, dealing in helper.some_square(200, 63, 5)]
        for wishes in asked:
            table, log = eaten(wishes)
            bites = lcm(*[bottom for shares in table for top, bottom in shares], *[time[1] for time, things in log])
            self.assertEqual(bite_by_bite(wishes, bites), table)

    def test_no_table_of_small_parts_is_better(self):
        for wishes in helper.all_wishes(3, 3)[::5]:
            table = eaten(wishes)[0]
            for other in helper.all_tables(3, 4):
                if other != table:
                    rows = zip(wishes, other, table)
                    self.assertFalse(all(helper.plain_no_less(row, more, shares) for row, more, shares in rows))

    def test_the_log_is_a_new_list(self):
        for wishes, owns, dealing in helper.some_square(70, 64):
            table, log = eaten(wishes)
            before = helper.copies((table, log))
            log.append(((2, 1), (7,)))
            log[0] = None
            self.assertEqual(eaten(wishes), before)
            self.assertIsNot(eaten(wishes)[1], eaten(wishes)[1])

    def test_what_is_handed_in_stays(self):
        for wishes, owns, dealing in helper.some_square(70, 65):
            helper.stays_and_is_told_again(self, eaten, wishes)


class SumsAlongTest(unittest.TestCase):
    def test_sums(self):
        wishes = helper.wishes_in("A B C; C A B; B C A")
        shares = ((1, 2), (1, 3), (1, 6))
        self.assertEqual(sums_along(wishes, 0, shares), [(1, 2), (5, 6), (1, 1)])
        self.assertEqual(sums_along(wishes, 1, shares), [(1, 6), (2, 3), (1, 1)])
        self.assertEqual(sums_along(wishes, 2, shares), [(1, 3), (1, 2), (1, 1)])

    def test_one_thing_and_more_things_than_hands(self):
        self.assertEqual(sums_along(helper.wishes_in("A"), 0, ((1, 1),)), [(1, 1)])
        shares = ((0, 1), (1, 4), (3, 4))
        self.assertEqual(sums_along(helper.wishes_in("C A B"), 0, shares), [(3, 4), (3, 4), (1, 1)])

    def test_against_a_plain_reckoning(self):
        for wishes, table in helper.some_tables(210, 66):
            for hand, shares in product(range(len(wishes)), table):
                told = sums_along(wishes, hand, shares)
                self.assertIsInstance(told, list)
                self.assertEqual(told, [helper.pair_of(worth) for worth in helper.plain_sums(wishes[hand], shares)])

    def test_the_sums_are_a_new_list(self):
        wishes = helper.wishes_in("A B; B A")
        shares = ((1, 3), (2, 3))
        told = sums_along(wishes, 1, shares)
        told.append((7, 1))
        told[0] = None
        self.assertEqual(sums_along(wishes, 1, shares), [(2, 3), (1, 1)])
        self.assertEqual((wishes, shares), (((0, 1), (1, 0)), ((1, 3), (2, 3))))


class NoLessTest(unittest.TestCase):
    def test_equal_shares(self):
        wishes = helper.wishes_in("A B C; C A B; B C A")
        shares = ((1, 2), (1, 3), (1, 6))
        for hand in range(3):
            self.assertIs(no_less(wishes, hand, shares, shares), True)

    def test_more_and_less(self):
        wishes = helper.wishes_in("A B C; C B A; A B C")
        more, others = ((1, 2), (1, 2), (0, 1)), ((1, 2), (1, 4), (1, 4))
        self.assertIs(no_less(wishes, 0, more, others), True)
        self.assertIs(no_less(wishes, 0, others, more), False)
        self.assertIs(no_less(wishes, 1, more, others), False)
        self.assertIs(no_less(wishes, 1, others, more), True)

    def test_more_at_one_height_and_less_at_another(self):
        wishes = helper.wishes_in("A B C; A B C; A B C")
        one, other = ((1, 2), (0, 1), (1, 2)), ((1, 3), (1, 3), (1, 3))
        self.assertIs(no_less(wishes, 0, one, other), False)
        self.assertIs(no_less(wishes, 0, other, one), False)

    def test_less_at_the_last_height_alone(self):
        wishes = helper.wishes_in("A B")
        self.assertIs(no_less(wishes, 0, ((1, 2), (1, 4)), ((1, 2), (1, 2))), False)
        self.assertIs(no_less(wishes, 0, ((1, 2), (1, 2)), ((1, 2), (1, 4))), True)

    def test_all_small_shares(self):
        rows = [row for row in product(range(4), repeat=3) if sum(row) == 3]
        shares = [tuple(helper.pair_of(Fraction(part, 3)) for part in row) for row in rows]
        for wishes in helper.all_wishes(1, 3):
            for one, other in product(shares, repeat=2):
                self.assertIs(no_less(wishes, 0, one, other), helper.plain_no_less(wishes[0], one, other))

    def test_what_is_handed_in_stays_and_asked_again_the_answer_is_the_same(self):
        for wishes, table in helper.some_tables(70, 67):
            helper.stays_and_is_told_again(self, no_less, wishes, 0, table[0], table[-1])
            helper.stays_and_is_told_again(self, sums_along, wishes, 0, table[-1])


if __name__ == "__main__":
    unittest.main()
