"""Point 8 and the interface of ringtrade/texts.py."""

import unittest

from ringtrade.errors import NoOwn, NoRow, NoText, TooMany
from ringtrade.texts import rows_read, rows_text
from tests.helper import all_owns, all_wishes, some_asked


class RowsTextTest(unittest.TestCase):
    def test_the_examples_of_the_document(self):
        self.assertEqual(rows_text(((1, 0), (0, 1)), (0, 1)), "B A*; A B*")
        self.assertEqual(rows_text(((1, 0), (0, 1)), (0, None)), "B A*; A B")

    def test_all_letters(self):
        self.assertEqual(rows_text((tuple(range(8)),), (7,)), "A B C D E F G H*")
        self.assertEqual(rows_text((tuple(range(7, -1, -1)),), (None,)), "H G F E D C B A")

    def test_one_hand(self):
        self.assertEqual(rows_text(((0,),), (0,)), "A*")
        self.assertEqual(rows_text(((0,),), (None,)), "A")


class RowsReadTest(unittest.TestCase):
    def refuses_text(self, text, at):
        with self.assertRaises(NoText) as caught:
            rows_read(text)
        self.assertEqual(caught.exception.at, at)

    def refuses_hand(self, text, error, hand):
        with self.assertRaises(error) as caught:
            rows_read(text)
        self.assertEqual(caught.exception.hand, hand)

    def test_the_examples_of_the_document(self):
        self.assertEqual(rows_read("B A*; A B*"), (((1, 0), (0, 1)), (0, 1)))
        self.assertEqual(rows_read("B A*; A B"), (((1, 0), (0, 1)), (0, None)))

    def test_tuples_are_told(self):
        told = rows_read("B A*; A B")
        for thing in (told, told[0], told[0][0], told[0][1], told[1]):
            self.assertIsInstance(thing, tuple)

    def test_there_and_back_over_all_small_ones(self):
        for hands, things in ((1, 1), (1, 3), (2, 2), (2, 3), (3, 3)):
            for wishes in all_wishes(hands, things):
                for owns in all_owns(hands, things):
                    self.assertEqual(rows_read(rows_text(wishes, owns)), (wishes, owns))

    def test_there_and_back_over_greater_ones(self):
        for wishes, owns, order in some_asked(70, 8):
            self.assertEqual(rows_read(rows_text(wishes, owns)), (wishes, owns))

    def test_the_empty_text_and_empty_parts(self):
        self.refuses_text("", 0)
        self.refuses_text("; ", 0)
        self.refuses_text("A; ", 1)
        self.refuses_text("; A", 0)
        self.refuses_text("A B; ; B A", 1)

    def test_doubled_and_hanging_blanks(self):
        self.refuses_text(" ", 0)
        self.refuses_text("A  B; A B", 0)
        self.refuses_text("A B;  A B", 1)
        self.refuses_text("A B; A B ", 1)
        self.refuses_text(" A B; A B", 0)
        self.refuses_text("A B ; A B", 0)

    def test_other_signs_between(self):
        self.refuses_text("A B;A B", 0)
        self.refuses_text("A,B; A B", 0)
        self.refuses_text("A B; AB", 1)
        self.refuses_text("A B; A B;", 1)
        self.refuses_text("A\tB", 0)
        self.refuses_text("A\n", 0)

    def test_small_letters_and_letters_beyond(self):
        self.refuses_text("a", 0)
        self.refuses_text("A B; A b*", 1)
        self.refuses_text("A I; I A", 0)
        self.refuses_text("A B; Z* A", 1)
        self.refuses_text("0", 0)
        self.refuses_text("ABCDEFGH", 0)

    def test_stars(self):
        self.refuses_text("*", 0)
        self.refuses_text("A *; A B", 0)
        self.refuses_text("A B; *A B", 1)
        self.refuses_text("A** B", 0)
        self.refuses_text("A B; A* B*", 1)
        self.refuses_text("A* A*", 0)
        self.refuses_text("A* B* C*", 0)

    def test_the_first_part_is_told(self):
        self.refuses_text("A B C; A* B* C; a B C", 1)
        self.refuses_text("A B C; a B C; A* B* C", 1)
        self.refuses_text("A B C; A B C; ", 2)

    def test_what_is_no_text(self):
        for thing in (None, 0, -1, True, False, 1.5, b"A*", [], ["A*"], ("A*",), {}, object()):
            with self.subTest(thing):
                self.refuses_text(thing, -1)

    def test_no_text_comes_ahead_of_what_rows_refuse(self):
        self.refuses_text("; ".join(["A"] * 8 + ["a"]), 8)
        self.refuses_text("A A; a B", 1)
        self.refuses_text("A*; A*; I", 2)

    def test_too_many(self):
        row = "A B C D E F G H"
        self.assertEqual(len(rows_read("; ".join([row] * 7))[0]), 7)
        self.assertRaises(TooMany, rows_read, "; ".join([row] * 8))
        self.assertRaises(TooMany, rows_read, "A; B A")
        self.assertRaises(TooMany, rows_read, row + " A")

    def test_no_row(self):
        self.refuses_hand("B", NoRow, 0)
        self.refuses_hand("A A", NoRow, 0)
        self.refuses_hand("A B; A", NoRow, 1)
        self.refuses_hand("A B; A B C", NoRow, 1)
        self.refuses_hand("A B C; B* A C; D B C*", NoRow, 2)

    def test_no_own(self):
        self.refuses_hand("A* B; A* B", NoOwn, 1)
        self.refuses_hand("A* B C; A B C*; A* B C", NoOwn, 2)

    def test_rows_come_ahead_of_owns(self):
        self.refuses_hand("A* B; A* A", NoRow, 1)
        self.assertRaises(TooMany, rows_read, "A*; A*")


if __name__ == "__main__":
    unittest.main()
