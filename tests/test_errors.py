"""Points 2 and the interface of ringtrade/errors.py."""

import unittest

from ringtrade import errors

OF_A_TEXT = ("TooMany", "NotSquare", "NoFraction", "NoDeed", "NoLine")
OF_A_HAND = ("NoRow", "NoOwn", "NotOwned")
OF_A_PLACE = ("NoOrder", "NoText")
ALL = OF_A_TEXT + OF_A_HAND + OF_A_PLACE + ("NoTable",)


def made(name):
    told = ("row", 2) if name == "NoTable" else "words" if name in OF_A_TEXT else 3
    return getattr(errors, name)(told)


class ErrorsTest(unittest.TestCase):
    def test_there_are_eleven(self):
        self.assertEqual(len(set(ALL)), 11)

    def test_the_base_stands_beneath_value_error(self):
        self.assertEqual(errors.TradeError.__bases__, (ValueError,))

    def test_each_stands_straight_beneath_the_base(self):
        for name in ALL:
            with self.subTest(name):
                self.assertEqual(getattr(errors, name).__bases__, (errors.TradeError,))

    def test_each_is_a_trade_error_and_a_value_error(self):
        for name in ALL:
            with self.subTest(name):
                self.assertIsInstance(made(name), errors.TradeError)
                self.assertIsInstance(made(name), ValueError)

    def test_none_is_one_of_the_ten_others(self):
        for name in ALL:
            for other in ALL:
                with self.subTest(name, other=other):
                    self.assertEqual(isinstance(made(name), getattr(errors, other)), name == other)

    def test_each_is_raised_and_taken_as_the_base(self):
        for name in ALL:
            with self.subTest(name):
                with self.assertRaises(errors.TradeError):
                    raise made(name)

    def test_those_of_a_text_say_it(self):
        for name in OF_A_TEXT:
            with self.subTest(name):
                self.assertEqual(str(getattr(errors, name)("what is wrong")), "what is wrong")

    def test_those_of_a_hand_tell_it(self):
        for name in OF_A_HAND:
            for hand in (-1, 0, 3, 7):
                with self.subTest(name, hand=hand):
                    self.assertEqual(getattr(errors, name)(hand).hand, hand)
                    self.assertEqual(getattr(errors, name)(hand=hand).hand, hand)

    def test_those_of_a_place_tell_it(self):
        for name in OF_A_PLACE:
            for at in (-1, 0, 3):
                with self.subTest(name, at=at):
                    self.assertEqual(getattr(errors, name)(at).at, at)
                    self.assertEqual(getattr(errors, name)(at=at).at, at)

    def test_no_table_tells_why(self):
        self.assertEqual(errors.NoTable(("row", 2)).why, ("row", 2))
        self.assertEqual(errors.NoTable(why=("column", 0)).why, ("column", 0))


if __name__ == "__main__":
    unittest.main()
