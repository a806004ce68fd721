"""Point 15, of 3 what it says of betterments, and the interface of ringtrade/bettering.py."""

import unittest
from itertools import product

from ringtrade.bettering import bettered, betterment
from ringtrade.orders import order_behind
from ringtrade.rings import by_rings
from ringtrade.texts import rows_read
from tests import helper


def betterment_of(text, dealing):
    return betterment(rows_read(text)[0], dealing)


def small_sizes():
    return ((1, 1), (1, 2), (1, 3), (2, 2), (2, 3), (3, 3))


class BettermentTest(unittest.TestCase):
    def test_none(self):
        self.assertIsNone(betterment_of("A", (0,)))
        self.assertIsNone(betterment_of("A B", (0,)))
        self.assertIsNone(betterment_of("A B; A B", (0, 1)))
        self.assertIsNone(betterment_of("A B; A B", (1, 0)))
        self.assertIsNone(betterment_of("A B C; A B C", (0, 1)))
        self.assertIsNone(betterment_of("B C A; C A B; A B C", (1, 2, 0)))

    def test_a_ring_of_two(self):
        kind, hands = betterment_of("B A; A B", (0, 1))
        self.assertEqual((kind, sorted(hands)), ("ring", [0, 1]))

    def test_a_ring_of_three(self):
        kind, hands = betterment_of("B A C; C B A; A C B", (0, 1, 2))
        self.assertEqual(kind, "ring")
        self.assertIn(hands, ((0, 1, 2), (1, 2, 0), (2, 0, 1)))

    def test_a_ring_of_seven(self):
        wishes = tuple(tuple((hand + 1 - k) % 7 for k in range(7)) for hand in range(7))
        kind, hands = betterment(wishes, tuple(range(7)))
        turn = hands.index(0)
        self.assertEqual((kind, hands[turn:] + hands[:turn]), ("ring", tuple(range(7))))

    def test_a_ring_with_envy_that_leads_into_it_and_past_it(self):
        # 0 envies 1, but nobody envies 0; 2 envies 3, too, that envies nobody.
        kind, hands = betterment_of("B A C D; C B A D; D B C A; D A B C", (0, 1, 2, 3))
        self.assertEqual((kind, sorted(hands)), ("ring", [1, 2]))

    def test_a_line_of_one_hand(self):
        self.assertEqual(betterment_of("A B", (1,)), ("line", (0,), 0))
        self.assertEqual(betterment_of("C A B; A B C", (1, 0)), ("line", (0,), 2))

    def test_a_line_where_there_is_no_ring(self):
        wishes = rows_read("B A C; C B A")[0]
        way = betterment(wishes, (0, 1))
        self.assertEqual(way[0], "line")
        self.assertIn(way, helper.all_ways(wishes, (0, 1)))

    def test_a_ring_where_there_is_no_line(self):
        kind, hands = betterment_of("B A C; A B C", (0, 1))
        self.assertEqual((kind, sorted(hands)), ("ring", [0, 1]))

    def test_kinds(self):
        ring = betterment_of("B A; A B", (0, 1))
        line = betterment_of("A B", (1,))
        for way in (ring, line):
            self.assertIsInstance(way, tuple)
            self.assertIsInstance(way[1], tuple)
        self.assertEqual((len(ring), len(line)), (2, 3))

    def asks(self, wishes, dealing):
        way = betterment(wishes, dealing)
        ways = helper.all_ways(wishes, dealing)
        if (way not in ways) if ways else (way is not None):
            self.fail(f"{wishes} {dealing}: {way}")
        return way

    def test_all_small_dealings(self):
        for hands, things in small_sizes():
            for wishes, dealing in product(helper.all_wishes(hands, things), helper.all_dealings(hands, things)):
                way = self.asks(wishes, dealing)
                self.assertEqual(way is None, not helper.better_dealings(wishes, dealing))

    def test_some_greater_dealings(self):
        for wishes, dealing in helper.some_dealings(280, 31):
            if len(wishes) < 6:
                self.asks(wishes, dealing)

    def test_some_greater_square_dealings(self):
        for wishes, owns, dealing in helper.some_square(120, 32, 5):
            way = self.asks(wishes, dealing)
            self.assertEqual(way is None, not helper.better_dealings(wishes, dealing))

    def test_none_of_the_dealing_by_rings(self):
        for wishes, owns, order in helper.some_asked(350, 33):
            self.assertIsNone(betterment(wishes, by_rings(wishes, owns, order)))

    def test_asked_again_and_what_is_handed_in_stays(self):
        for wishes, dealing in helper.some_dealings(140, 34):
            before = helper.copies((wishes, dealing))
            first = betterment(wishes, dealing)
            self.assertEqual(betterment(wishes, dealing), first)
            if first is not None:
                told = bettered(wishes, dealing, first)
                self.assertEqual(bettered(wishes, dealing, first), told)
            self.assertEqual((wishes, dealing), before)


class BetteredTest(unittest.TestCase):
    def test_by_a_ring_of_two(self):
        wishes = rows_read("B A C; A B C; C A B")[0]
        self.assertEqual(bettered(wishes, (0, 1, 2), ("ring", (0, 1))), (1, 0, 2))
        self.assertEqual(bettered(wishes, (0, 1, 2), ("ring", (1, 0))), (1, 0, 2))

    def test_by_a_ring_of_three_each_gets_that_of_the_next(self):
        wishes = rows_read("B A C; C B A; A C B")[0]
        for hands in ((0, 1, 2), (1, 2, 0), (2, 0, 1)):
            self.assertEqual(bettered(wishes, (0, 1, 2), ("ring", hands)), (1, 2, 0))

    def test_by_a_line_of_one(self):
        wishes = rows_read("A B C; A B C")[0]
        self.assertEqual(bettered(wishes, (1, 2), ("line", (0,), 0)), (0, 2))
        self.assertEqual(bettered(wishes, (1, 2), ("line", (1,), 0)), (1, 0))

    def test_by_a_line_of_two(self):
        wishes = rows_read("A B C D; A B C D; D A B C")[0]
        self.assertEqual(bettered(wishes, (2, 1, 3), ("line", (0, 1), 0)), (1, 0, 3))

    def test_by_a_line_of_three(self):
        wishes = rows_read("A B C D; A B C D; A B C D")[0]
        self.assertEqual(bettered(wishes, (3, 1, 2), ("line", (0, 2, 1), 0)), (2, 0, 1))

    def test_it_is_a_tuple(self):
        self.assertIsInstance(bettered(((1, 0), (0, 1)), (0, 1), ("ring", (0, 1))), tuple)
        self.assertIsInstance(bettered(((0, 1),), (1,), ("line", (0,), 0)), tuple)

    def asks(self, wishes, dealing, way):
        told = bettered(wishes, dealing, way)
        hands = way[1]
        for place, hand in enumerate(hands):
            last = place == len(hands) - 1
            thing = way[2] if last and way[0] == "line" else dealing[hands[0 if last else place + 1]]
            self.assertEqual(told[hand], thing)
        for hand in range(len(wishes)):
            if hand not in hands:
                self.assertEqual(told[hand], dealing[hand])
        self.assertEqual(len(told), len(dealing))
        self.assertIn(told, helper.better_dealings(wishes, dealing))

    def test_by_each_way_of_all_small_dealings(self):
        for hands, things in small_sizes():
            for wishes, dealing in product(helper.all_wishes(hands, things), helper.all_dealings(hands, things)):
                for way in helper.all_ways(wishes, dealing):
                    self.asks(wishes, dealing, way)

    def test_by_each_way_of_some_greater_dealings(self):
        seen = set()
        for wishes, dealing in helper.some_dealings(70, 35):
            if len(wishes) < 5 and len(wishes[0]) < 7:
                for way in helper.all_ways(wishes, dealing):
                    seen.add((way[0], len(way[1])))
                    self.asks(wishes, dealing, way)
        self.assertLessEqual({("ring", 2), ("ring", 3), ("line", 1), ("line", 2), ("line", 3)}, seen)

    def test_step_by_step_until_none(self):
        for wishes, dealing in helper.some_dealings(350, 36):
            steps = 0
            way = betterment(wishes, dealing)
            while way is not None:
                told = bettered(wishes, dealing, way)
                self.assertTrue(helper.like_no_less(wishes, dealing, told))
                self.assertNotEqual(told, dealing)
                self.assertEqual(len(set(told)), len(wishes))
                dealing = told
                way = betterment(wishes, dealing)
                steps += 1
                # Each step lifts a hand by a place or more, so there are never more of them.
                self.assertLessEqual(steps, 7 * 7)
            self.assertIsNotNone(order_behind(wishes, dealing))


if __name__ == "__main__":
    unittest.main()
