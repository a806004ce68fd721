"""Point 17, of 2 what it says of truths, and the interface of ringtrade/fractions.py."""

import unittest
from fractions import Fraction
from itertools import product

from ringtrade.errors import NoFraction, TradeError
from ringtrade.fractions import fraction, less, minus, plus, times
from tests import helper

SMALL = range(-7, 8)
# Sixty figures, some with great common divisors, some with none.
GREAT = (
    10 ** 59, 10 ** 60 - 1, -(10 ** 60 - 1), 2 * 10 ** 59, 6 * 10 ** 59, 3 ** 125, 2 ** 198, -(7 ** 70),
    2 ** 100 * 3 ** 62,
)


def small_fractions():
    worths = sorted({Fraction(top, bottom) for top in SMALL for bottom in SMALL if bottom != 0})
    return [helper.pair_of(worth) for worth in worths]


def great_fractions():
    return [helper.pair_of(Fraction(top, bottom)) for top, bottom in product(GREAT, repeat=2)]


class FractionTest(unittest.TestCase):
    def test_lowest_terms(self):
        self.assertEqual(fraction(1, 2), (1, 2))
        self.assertEqual(fraction(2, 4), (1, 2))
        self.assertEqual(fraction(12, 18), (2, 3))
        self.assertEqual(fraction(18, 12), (3, 2))
        self.assertEqual(fraction(7, 7), (1, 1))
        self.assertEqual(fraction(12, 4), (3, 1))

    def test_tops_and_bottoms_below_nought(self):
        self.assertEqual(fraction(-2, 4), (-1, 2))
        self.assertEqual(fraction(2, -4), (-1, 2))
        self.assertEqual(fraction(-2, -4), (1, 2))
        self.assertEqual(fraction(-3, 1), (-3, 1))
        self.assertEqual(fraction(3, -1), (-3, 1))
        self.assertEqual(fraction(-9, -3), (3, 1))

    def test_nought(self):
        for bottom in (1, 2, 7, -1, -6, 10 ** 59, -(10 ** 59)):
            self.assertEqual(fraction(0, bottom), (0, 1))

    def test_a_bottom_nought_is_refused(self):
        for top in (0, 1, -1, 5, 10 ** 59):
            with self.assertRaises(NoFraction):
                fraction(top, 0)

    def test_a_truth_is_no_number(self):
        for top, bottom in ((True, 1), (False, 1), (1, True), (0, True), (True, True), (1, False)):
            with self.assertRaises(NoFraction):
                fraction(top, bottom)

    def test_the_refusal_stands_beneath_the_base(self):
        with self.assertRaises(TradeError):
            fraction(1, 0)

    def test_all_small_ones(self):
        for top in range(-40, 41):
            for bottom in range(-40, 41):
                if bottom != 0:
                    self.assertEqual(fraction(top, bottom), helper.pair_of(Fraction(top, bottom)))

    def test_great_ones(self):
        for top, bottom in product(GREAT, repeat=2):
            told = fraction(top, bottom)
            self.assertIsInstance(told, tuple)
            self.assertEqual(told, helper.pair_of(Fraction(top, bottom)))

    def test_what_was_told_is_told_again(self):
        for pair in small_fractions():
            self.assertEqual(fraction(pair[0], pair[1]), pair)


class ReckoningTest(unittest.TestCase):
    def test_plus(self):
        self.assertEqual(plus((1, 2), (1, 3)), (5, 6))
        self.assertEqual(plus((1, 6), (1, 3)), (1, 2))
        self.assertEqual(plus((1, 2), (-1, 2)), (0, 1))
        self.assertEqual(plus((0, 1), (2, 7)), (2, 7))

    def test_minus(self):
        self.assertEqual(minus((1, 2), (1, 3)), (1, 6))
        self.assertEqual(minus((1, 3), (1, 2)), (-1, 6))
        self.assertEqual(minus((5, 6), (1, 3)), (1, 2))
        self.assertEqual(minus((2, 7), (2, 7)), (0, 1))

    def test_times(self):
        self.assertEqual(times((2, 3), (3, 4)), (1, 2))
        self.assertEqual(times((-2, 3), (3, 2)), (-1, 1))
        self.assertEqual(times((-1, 2), (-1, 2)), (1, 4))
        self.assertEqual(times((0, 1), (-5, 7)), (0, 1))

    def test_less(self):
        self.assertIs(less((1, 3), (1, 2)), True)
        self.assertIs(less((1, 2), (1, 3)), False)
        self.assertIs(less((1, 2), (1, 2)), False)
        self.assertIs(less((-1, 2), (0, 1)), True)
        self.assertIs(less((-1, 2), (-1, 3)), True)
        self.assertIs(less((-1, 3), (-1, 2)), False)

    def asks(self, a, b):
        one, other = Fraction(*a), Fraction(*b)
        told = (plus(a, b), minus(a, b), times(a, b), less(a, b))
        plain = tuple(helper.pair_of(worth) for worth in (one + other, one - other, one * other)) + (one < other,)
        self.assertEqual(told, plain)

    def test_all_small_ones(self):
        for a, b in product(small_fractions(), repeat=2):
            self.asks(a, b)

    def test_great_ones(self):
        for a, b in product(great_fractions(), small_fractions()[::3] + great_fractions()[::5]):
            self.asks(a, b)
            self.asks(b, a)

    def test_fractions_that_differ_by_little(self):
        great = 10 ** 59
        self.assertIs(less((great - 1, great), (great, great + 1)), True)
        self.assertIs(less((great, great + 1), (great - 1, great)), False)
        self.assertEqual(minus((great, great + 1), (great - 1, great)), (1, great * (great + 1)))


if __name__ == "__main__":
    unittest.main()
