"""Points 28 and 29 and the interface of ringtrade/desk.py."""

import random
import unittest

from ringtrade.asking import asked
from ringtrade.desk import Desk
from ringtrade.eating import eaten
from ringtrade.errors import NoDeed, NoLine, NoOwn, NoRow, NoText, NotSquare, TooMany, TradeError
from ringtrade.lots import lot
from ringtrade.orders import by_order, order_behind
from ringtrade.rings import by_rings, rounds
from ringtrade.texts import rows_text
from tests import helper

THREE = "B A* C; A B* C; A B C"
LIKE = "A B C; A B C; A B C"
SIX = "; ".join(["A B C D E F"] * 6)
SEVEN = "; ".join(["A B C D E F G H"] * 7)


def desk_told(*lines):
    desk = Desk()
    for line in lines:
        desk.tell(line)
    return desk


def letters(things):
    return " ".join("ABCDEFGH"[thing] for thing in things)


def all_answers(desk):
    """What all lines that only ask answer, or which refusal: by it desks are held side by side."""
    hands = desk_hands(desk)
    lines = ["rings", "asks", "deal", "by " + " ".join(map(str, range(hands))), "of " + letters(range(hands))]
    lines += [f"{word} {hand}" for word in ("lot", "eat") for hand in range(hands)]
    return [answer_or_refusal(desk, line) for line in lines]


def desk_hands(desk):
    return len(desk.tell("deal").split(" "))


def answer_or_refusal(desk, line):
    try:
        return desk.tell(line)
    except TradeError as refusal:
        return refusal.__class__


class DeskTest(unittest.TestCase):
    def answers(self, desk, line, answer):
        with self.subTest(line=line):
            told = desk.tell(line)
            self.assertIsInstance(told, str)
            self.assertEqual(told, answer)

    def answer_all(self, desk, *pairs):
        for line, answer in pairs:
            self.answers(desk, line, answer)


class FirstTest(DeskTest):
    def test_what_is_kept_at_first(self):
        self.answer_all(
            Desk(),
            ("rings", "0 A"), ("asks", "takes 0 A"), ("deal", "A"), ("by 0", "A"), ("of A", "order 0"),
            ("lot 0", "1"), ("eat 0", "1"),
        )

    def test_the_text_kept_at_first(self):
        self.answers(Desk(), "order 0", "A*")
        self.answers(Desk(), "own 0 A", "A*")
        self.answers(Desk(), "none 0", "A")

    def test_nothing_is_to_be_undone_at_first(self):
        with self.assertRaises(NoDeed):
            Desk().tell("undo")


class ChangesTest(DeskTest):
    def test_rows(self):
        self.answer_all(
            Desk(),
            ("rows B A*; A B*", "B A*; A B*"),
            ("rows B A*; A B", "B A*; A B"),
            ("rows A", "A"),
            ("rows C A B", "C A B"),
            ("rows " + SEVEN, SEVEN),
        )

    def test_own_of_a_free_thing(self):
        desk = desk_told("rows " + THREE)
        self.answers(desk, "own 2 C", "B A* C; A B* C; A B C*")

    def test_own_frees_what_the_hand_owned_ahead(self):
        desk = desk_told("rows " + THREE)
        self.answer_all(desk, ("own 0 C", "B A C*; A B* C; A B C"), ("own 2 A", "B A C*; A B* C; A* B C"))

    def test_own_of_a_thing_that_another_hand_owns(self):
        desk = desk_told("rows " + THREE)
        self.answer_all(
            desk,
            ("own 0 B", "B* A C; A B C; A B C"),
            ("own 2 B", "B A C; A B C; A B* C"),
            ("own 1 A", "B A C; A* B C; A B* C"),
            ("own 1 B", "B A C; A B* C; A B C"),
        )

    def test_own_of_what_it_owns(self):
        desk = desk_told("rows " + THREE)
        self.answers(desk, "own 0 A", THREE)

    def test_own_keeps_the_order(self):
        desk = desk_told("rows " + LIKE, "order 2 1 0", "own 0 A")
        self.answers(desk, "rings", "0 A | 2 B | 1 C")
        desk.tell("none 0")
        self.answers(desk, "rings", "2 A | 1 B | 0 C")

    def test_none(self):
        desk = desk_told("rows " + THREE)
        self.answer_all(
            desk,
            ("none 1", "B A* C; A B C; A B C"),
            ("none 1", "B A* C; A B C; A B C"),
            ("none 2", "B A* C; A B C; A B C"),
            ("none 0", "B A C; A B C; A B C"),
        )

    def test_order(self):
        desk = desk_told("rows " + LIKE)
        self.answer_all(
            desk,
            ("deal", "A B C"),
            ("order 2 0 1", LIKE),
            ("deal", "B C A"),
            ("rings", "2 A | 0 B | 1 C"),
            ("asks", "takes 2 A; takes 0 B; takes 1 C"),
            ("order 1 2 0", LIKE),
            ("deal", "C A B"),
        )

    def test_the_order_is_none_again_behind_rows(self):
        desk = desk_told("rows " + LIKE, "order 2 1 0")
        self.answers(desk, "deal", "C B A")
        self.answers(desk, "rows " + LIKE, LIKE)
        self.answers(desk, "deal", "A B C")

    def test_an_order_of_other_hands_does_not_stay_behind_rows(self):
        desk = desk_told("rows " + LIKE, "order 2 1 0", "rows A B; A B")
        self.answers(desk, "deal", "A B")

    def test_all_hands_and_things_that_may_be_there(self):
        desk = desk_told("rows " + SEVEN)
        self.answer_all(
            desk,
            ("own 6 H", SEVEN + "*"),
            ("order 6 5 4 3 2 1 0", SEVEN + "*"),
            ("deal", "G F E D C B A"),
            ("by 6 0 5 1 4 2 3", "B D F G E C A"),
            ("of A B C D E F G", "order 0 1 2 3 4 5 6"),
        )


class UndoTest(DeskTest):
    def test_behind_each_that_changes(self):
        for line in ("rows A", "own 0 C", "none 0", "order 2 1 0"):
            with self.subTest(line):
                desk = desk_told("rows " + THREE, "order 1 2 0")
                before = all_answers(desk)
                desk.tell(line)
                self.answers(desk, "undo", THREE)
                self.assertEqual(all_answers(desk), before)

    def test_behind_the_first_one(self):
        for line in ("rows B A; A B", "own 0 A", "none 0", "order 0"):
            desk = desk_told(line)
            self.answers(desk, "undo", "A*")
            with self.assertRaises(NoDeed):
                desk.tell("undo")
            self.answers(desk, "none 0", "A")

    def test_behind_several(self):
        desk = desk_told("rows " + LIKE, "own 0 C", "own 1 C", "order 2 1 0", "none 1", "rows A")
        self.answer_all(
            desk,
            ("undo", LIKE), ("deal", "C B A"),
            ("undo", "A B C; A B C*; A B C"), ("deal", "C B A"),
            ("undo", "A B C; A B C*; A B C"), ("deal", "A B C"),
            ("undo", "A B C*; A B C; A B C"),
            ("undo", LIKE),
            ("undo", "A*"),
        )
        with self.assertRaises(NoDeed):
            desk.tell("undo")

    def test_the_order_comes_back_with_the_rows(self):
        desk = desk_told("rows " + LIKE, "order 2 1 0", "rows " + LIKE)
        self.answer_all(desk, ("deal", "A B C"), ("undo", LIKE), ("deal", "C B A"), ("undo", LIKE), ("deal", "A B C"))

    def test_none_comes_back_as_the_order(self):
        desk = desk_told("rows A B; A B", "order 1 0")
        self.answer_all(desk, ("deal", "B A"), ("undo", "A B; A B"), ("deal", "A B"))

    def test_one_that_left_all_as_it_was_counts(self):
        desk = desk_told("rows A* B; A B", "none 1", "own 0 A", "order 0 1", "order 0 1", "none 1")
        for turn in range(5):
            self.answers(desk, "undo", "A* B; A B")
        self.answers(desk, "undo", "A*")

    def test_what_is_undone_is_gone(self):
        desk = desk_told("rows A B; A B", "own 0 A", "undo", "own 1 A")
        self.answer_all(desk, ("undo", "A B; A B"), ("undo", "A*"))
        with self.assertRaises(NoDeed):
            desk.tell("undo")

    def test_behind_questions_and_refused_lines(self):
        desk = desk_told("rows " + THREE, "own 2 C")
        for line in ("rings", "asks", "deal", "by 0 1 2", "of A B C", "lot 0", "eat 2"):
            desk.tell(line)
        for line in ("", "own 0", "rows A; A", "rows", "order 0 1", "order 0 1 1", "none 3", "undo 1", None, "rows A A"):
            with self.assertRaises(TradeError):
                desk.tell(line)
        self.answer_all(desk, ("undo", THREE), ("undo", "A*"))

    def test_refused_and_told_again(self):
        desk = Desk()
        for turn in range(3):
            with self.assertRaises(NoDeed):
                desk.tell("undo")
        self.answers(desk, "none 0", "A")
        self.answers(desk, "undo", "A*")


class QuestionsTest(DeskTest):
    def test_rings(self):
        self.answers(desk_told("rows " + THREE), "rings", "0 B 1 A | 2 C")
        self.answers(desk_told("rows B A*; A B*"), "rings", "0 B 1 A")
        self.answers(desk_told("rows A* B C; B* A C; A B C*"), "rings", "0 A; 1 B | 2 C")
        self.answers(
            desk_told("rows B A* C D E; A B* C D E; D C* A B E; C D* A B E; A B C D E"), "rings",
            "0 B 1 A; 2 D 3 C | 4 E",
        )
        self.answers(desk_told("rows C A* B; A B* C; B A C*"), "rings", "0 C 2 B 1 A")

    def test_asks(self):
        self.answers(desk_told("rows " + THREE), "asks", "ahead 1 B; ring 0 B 1 A; takes 2 C")
        self.answers(desk_told("rows A B C; B A* C; A B C*"), "asks", "ahead 1 A; takes 1 B; takes 0 A; takes 2 C")
        self.answers(desk_told("rows A B*; B A*"), "asks", "ahead 1 A; ring 0 A 1 B")
        self.answers(desk_told("rows C A* B; A B* C; B A C*"), "asks", "ahead 2 C; ahead 1 B; ring 0 C 2 B 1 A")

    def test_deal(self):
        self.answers(desk_told("rows " + THREE), "deal", "B A C")
        self.answers(desk_told("rows H A B C D E F G"), "deal", "H")

    def test_by(self):
        desk = desk_told("rows " + THREE)
        self.answer_all(desk, ("by 0 1 2", "B A C"), ("by 2 0 1", "B C A"), ("by 1 2 0", "C A B"))

    def test_by_neither_keeps_nor_takes_the_kept_order(self):
        desk = desk_told("rows " + LIKE, "order 2 1 0")
        self.answer_all(desk, ("by 1 0 2", "B A C"), ("deal", "C B A"), ("undo", LIKE), ("deal", "A B C"))

    def test_of(self):
        desk = desk_told("rows " + THREE)
        self.answer_all(
            desk,
            ("of B C A", "order 0 2 1"), ("of B A C", "order 0 1 2"), ("of A B C", "better"), ("of C A B", "order 1 2 0"),
        )

    def test_of_where_things_are_left_over(self):
        desk = desk_told("rows A B C; A B C")
        self.answer_all(
            desk, ("of A B", "order 0 1"), ("of B A", "order 1 0"), ("of A C", "better"), ("of C B", "better"),
        )

    def test_lot_and_eat(self):
        desk = desk_told("rows " + THREE)
        self.answer_all(
            desk,
            ("lot 0", "0 2/3 1/3"), ("lot 1", "1/2 1/6 1/3"), ("lot 2", "1/2 1/6 1/3"),
            ("eat 0", "0 2/3 1/3"), ("eat 1", "1/2 1/6 1/3"), ("eat 2", "1/2 1/6 1/3"),
        )
        desk = desk_told("rows A B C D; A B D C; B A C D; B A D C")
        self.answers(desk, "lot 0", "5/12 1/12 5/12 1/12")
        self.answers(desk, "eat 0", "1/2 0 1/2 0")

    def test_the_lot_with_more_things_than_hands(self):
        desk = desk_told("rows A B C; A C B")
        self.answer_all(desk, ("lot 0", "1/2 1/2 0"), ("lot 1", "1/2 0 1/2"))

    def test_eaten_by_six_hands(self):
        self.answers(desk_told("rows " + SIX), "eat 5", "1/6 1/6 1/6 1/6 1/6 1/6")

    def test_asked_again_the_answer_is_the_same(self):
        desk = desk_told("rows " + THREE, "order 2 0 1")
        self.assertEqual(all_answers(desk), all_answers(desk))

    def test_over_drawn_wishes_owns_and_orders(self):
        desk = Desk()
        for wishes, owns, order in helper.some_asked(140, 131):
            text = rows_text(wishes, owns)
            self.assertEqual(desk.tell("rows " + text), text)
            self.asks_all(desk, wishes, owns, None)
            numbers = " ".join(str(hand) for hand in order)
            self.assertEqual(desk.tell("by " + numbers), letters(by_order(wishes, order)))
            self.assertEqual(desk.tell("order " + numbers), text)
            self.asks_all(desk, wishes, owns, order)

    def asks_all(self, desk, wishes, owns, order):
        told = rounds(wishes, owns, order)
        self.assertEqual(desk.tell("rings"), " | ".join("; ".join(map(plain_ring, rings)) for rings in told))
        self.assertEqual(desk.tell("asks"), "; ".join(map(plain_deed, asked(wishes, owns, order))))
        self.assertEqual(desk.tell("deal"), letters(by_rings(wishes, owns, order)))
        for dealing in (by_rings(wishes, owns, order), tuple(range(len(wishes)))):
            behind = order_behind(wishes, dealing)
            answer = "better" if behind is None else "order " + " ".join(str(hand) for hand in behind)
            self.assertEqual(desk.tell("of " + letters(dealing)), answer)
        if len(wishes) < 5:
            self.asks_shares(desk, "lot", lot(wishes))
        if len(wishes) == len(wishes[0]):
            self.asks_shares(desk, "eat", eaten(wishes)[0])

    def asks_shares(self, desk, word, table):
        for hand, shares in enumerate(table):
            told = [str(share) for share in helper.worths(shares)]
            self.assertEqual(desk.tell(f"{word} {hand}"), " ".join(told))


def plain_ring(ring):
    return " ".join(f"{hand} {'ABCDEFGH'[thing]}" for hand, thing in ring)


def plain_deed(deed):
    if deed[0] == "ring":
        return "ring " + plain_ring(deed[1])
    return f"{deed[0]} {deed[1]} {'ABCDEFGH'[deed[2]]}"


class RefusedTest(DeskTest):
    def refuses(self, error, line, *told):
        """That the desk, told so, refuses the line, and is as it was behind it."""
        with self.subTest(line=line):
            desk, other = desk_told(*told), desk_told(*told)
            with self.assertRaises(error) as caught:
                desk.tell(line)
            self.assertIs(caught.exception.__class__, error)
            self.assertEqual(all_answers(desk), all_answers(other))
            for turn in told:
                self.assertEqual(desk.tell("undo"), other.tell("undo"))
                self.assertEqual(all_answers(desk), all_answers(other))
            with self.assertRaises(NoDeed):
                desk.tell("undo")
            return caught.exception

    def refuses_lines(self, *lines):
        for line in lines:
            self.refuses(NoLine, line, "rows " + THREE, "order 2 0 1", "own 2 C")

    def test_what_is_no_text(self):
        self.refuses_lines(None, 0, 7, True, (), [], ["undo"], ("rings",), {}, b"rings", object(), Desk())

    def test_the_empty_line_and_blanks(self):
        self.refuses_lines("", " ", "  ", "   ")

    def test_unknown_words(self):
        self.refuses_lines(
            "ring", "Rings", "RINGS", "ringss", "row A", "redo", "help", "0", "A", "A*", "undo;", "deals", "ask",
            "owns 0 A", "nones 0", "lots 0", "eats 0", "eaten 0", "orders 0 1 2", "rings\n", "rings;", "takes 0 A",
            "rowsA*", "rows\tA", "kept", "past", "shares 0", "better",
        )

    def test_a_word_too_few(self):
        self.refuses_lines(
            "own", "own 0", "own A", "none", "order", "order 0", "order 0 1", "by", "by 0", "by 0 1", "of", "of A",
            "of A B", "lot", "eat",
        )

    def test_a_word_too_many(self):
        self.refuses_lines(
            "own 0 A B", "own 0 1 A", "own 0 A 1", "none 0 1", "none 0 A", "order 0 1 2 0", "order 0 1 2 3",
            "undo 0", "undo 1", "undo undo", "rings 0", "rings rings", "asks 0", "deal A", "deal deal",
            "by 0 1 2 0", "by 0 1 2 3", "of A B C A", "of A B C D", "lot 0 1", "lot 0 A", "eat 0 1", "eat 0 0",
        )

    def test_two_blanks_and_a_blank_ahead_or_behind(self):
        for line in (
            "own 0 A", "none 0", "order 0 1 2", "undo", "rings", "asks", "deal", "by 0 1 2", "of A B C", "lot 0", "eat 0",
        ):
            self.refuses_lines(" " + line, line + " ", "  " + line, line + "  ")
            if " " in line:
                self.refuses_lines(line.replace(" ", "  ", 1), line[::-1].replace(" ", "  ", 1)[::-1])

    def test_other_signs_between_the_words(self):
        self.refuses_lines("own\t0 A", "own 0\tA", "own 0,A", "by 0,1,2", "by 012", "of ABC", "of A;B;C", "rings\n")

    def test_a_blank_ahead_of_rows(self):
        self.refuses_lines(" rows A*", "  rows A*")

    def test_rows_with_nothing_behind(self):
        self.refuses_lines("rows")
        self.assertEqual(self.refuses(NoText, "rows ", "rows " + THREE).at, 0)

    def test_a_hand_that_is_none(self):
        for hand in ("3", "7", "9", "00", "01", "10", "-1", "+1", "1.0", "a", "A", "x", "0x0", "*", "None", "True", "0*"):
            self.refuses_lines(
                f"own {hand} A", f"none {hand}", f"order {hand} 1 2", f"order 0 1 {hand}", f"by {hand} 1 2",
                f"by 0 1 {hand}", f"lot {hand}", f"eat {hand}",
            )

    def test_a_thing_that_is_none(self):
        for thing in ("D", "H", "I", "Z", "a", "AB", "A*", "*", "0", "AA", "-"):
            self.refuses_lines(f"own 0 {thing}", f"of {thing} B C", f"of A B {thing}")

    def test_a_hand_or_a_thing_twice(self):
        self.refuses_lines(
            "order 0 0 1", "order 0 1 0", "order 2 2 2", "by 0 0 1", "by 1 0 1", "by 1 1 1", "of A A B", "of A B A",
            "of C C C",
        )

    def test_hands_and_things_by_the_rows_that_are_kept(self):
        desk = desk_told("rows A B C; A B C")
        self.answer_all(desk, ("own 1 C", "A B C; A B C*"), ("of C B", "better"), ("by 1 0", "B A"))
        for line in ("own 2 C", "own 1 D", "of C D", "of A B C", "by 1 0 2", "order 0 1 2", "none 2", "lot 2", "eat 2"):
            self.refuses(NoLine, line, "rows A B C; A B C")
        for line in ("none 1", "own 0 B", "order 0 1", "of B", "by 1", "lot 1", "eat 1"):
            self.refuses(NoLine, line)

    def test_hands_and_things_no_more_there_behind_undo(self):
        self.assertEqual(desk_told("rows " + THREE).tell("lot 2"), "1/2 1/6 1/3")
        desk = desk_told("rows " + THREE, "undo")
        for line in ("lot 2", "own 0 B", "of B", "by 0 1 2"):
            with self.assertRaises(NoLine):
                desk.tell(line)

    def test_what_a_text_of_rows_refuses(self):
        for text, at in (
            ("", 0), (" ", 0), (" A", 0), ("A ", 0), ("A  B; A B", 0), ("A B;A B", 0), ("A B; ", 1), ("A B; A  B", 1),
            ("A B; A I", 1), ("a", 0), ("A**", 0), ("A* B*; A B", 0), ("A B; A* B*", 1), ("0", 0), ("A B; A B; *", 2),
            ("rows A", 0),
        ):
            self.assertEqual(self.refuses(NoText, "rows " + text, "rows " + THREE, "order 2 0 1").at, at)
        for text in ("A; B A", "A B; A B; A B", "; ".join(["A B C D E F G H"] * 8), "A B C D E F G H A"):
            self.refuses(TooMany, "rows " + text, "rows " + THREE, "order 2 0 1")
        for text, hand in (("A A; A B", 0), ("A B; A", 1), ("A B; A C", 1), ("A B; B B", 1), ("B", 0), ("A B C; A B", 1)):
            self.assertEqual(self.refuses(NoRow, "rows " + text, "rows " + THREE, "order 2 0 1").hand, hand)
        for text, hand in (("A* B; A* B", 1), ("A B C; B* A C; A B* C", 2)):
            self.assertEqual(self.refuses(NoOwn, "rows " + text, "rows " + THREE, "order 2 0 1").hand, hand)

    def test_a_lot_of_six_and_of_seven_hands(self):
        self.refuses(TooMany, "lot 0", "rows " + SIX)
        self.refuses(TooMany, "lot 5", "rows " + SIX)
        self.refuses(TooMany, "lot 6", "rows " + SEVEN)

    def test_eating_of_more_things_than_hands(self):
        self.refuses(NotSquare, "eat 0", "rows A B")
        self.refuses(NotSquare, "eat 1", "rows A B C; A B C")
        self.refuses(NotSquare, "eat 6", "rows " + SEVEN)

    def test_no_line_comes_ahead_of_what_is_refused_else(self):
        for line in ("lot 6", "lot", "lot 0 1", "lot A", "lot  0", "lot 05"):
            self.refuses(NoLine, line, "rows " + SIX)
        for line in ("eat 2", "eat", "eat 0 1", "eat A", "eat  0", "eat 01"):
            self.refuses(NoLine, line, "rows A B C; A B C")
        for line in ("undo ", "undo 0", " undo", "undo undo"):
            self.refuses(NoLine, line)

    def test_nothing_left_to_undo(self):
        self.refuses(NoDeed, "undo")


class SideBySideTest(DeskTest):
    def test_two_desks(self):
        one, other = Desk(), Desk()
        one.tell("rows " + THREE)
        self.answers(other, "deal", "A")
        other.tell("rows A B; A B")
        other.tell("order 1 0")
        self.answers(one, "deal", "B A C")
        self.answers(other, "deal", "B A")
        self.answers(one, "undo", "A*")
        self.answers(other, "undo", "A B; A B")
        with self.assertRaises(NoDeed):
            one.tell("undo")
        self.answers(other, "undo", "A*")

    def test_a_desk_made_behind_another_was_told_much(self):
        desk_told("rows " + THREE, "order 2 1 0", "own 2 C")
        self.answers(Desk(), "none 0", "A")


class ManyLinesTest(DeskTest):
    """Lines drawn one by one, held beside a plain keeping of all that is behind."""

    def line_drawn(self, source, hands, things):
        hand, thing = source.randint(0, hands), "ABCDEFGHI"[source.randint(0, things)]
        order = " ".join(str(one) for one in source.sample(range(hands), hands))
        rows = rows_text(*helper.some_asked(source.randint(1, 7), source.randint(0, 99))[-1][:2])
        return source.choice(
            [f"own {hand} {thing}"] * 4 + [f"none {hand}"] * 2 + [f"order {order}"] * 2
            + [f"rows {rows}", "undo", "undo", "undo", "rings", "lot 0", "eat 0", "own 0", "rows A A"]
        )

    def plain_after(self, kept, line):
        """What is kept behind a line that changes, by the words of point 28; None where the line is refused."""
        text, order = kept
        words = line.split(" ")
        rows = [row.split(" ") for row in text.split("; ")]
        if words[0] == "rows":
            return (line[5:], None)
        if words[0] == "order":
            return (text, [int(word) for word in words[1:]])
        if int(words[1]) >= len(rows) or words[-1] > "ABCDEFGH"[len(rows[0]) - 1]:
            return None
        mine = rows[int(words[1])]
        mine[:] = [word.strip("*") for word in mine]
        if words[0] == "own":
            rows = [[word.replace(words[2] + "*", words[2]) for word in row] for row in rows]
            rows[int(words[1])][mine.index(words[2])] += "*"
        return ("; ".join(" ".join(row) for row in rows), order)

    def test_many_lines(self):
        source = random.Random(132)
        desk, kept, past = Desk(), ("A*", None), []
        undone = 0
        for turn in range(3000):
            hands, things = kept[0].count(";") + 1, len(kept[0].split("; ")[0].split(" "))
            line = self.line_drawn(source, hands, things)
            before = helper.copies(kept)
            if line == "undo":
                if past:
                    kept = past.pop()
                    undone += 1
                    self.assertEqual(desk.tell(line), kept[0])
                else:
                    with self.assertRaises(NoDeed):
                        desk.tell(line)
            elif line in ("own 0", "rows A A"):
                with self.assertRaises(TradeError):
                    desk.tell(line)
            elif line in ("rings", "lot 0", "eat 0"):
                answer_or_refusal(desk, line)
            elif self.plain_after(kept, line) is None:
                with self.assertRaises(NoLine):
                    desk.tell(line)
            else:
                kept = self.plain_after(kept, line)
                past.append(before)
                self.assertEqual(desk.tell(line), kept[0])
            beside = desk_told("rows " + kept[0])
            if kept[1] is not None:
                beside.tell("order " + " ".join(str(hand) for hand in kept[1]))
            self.assertEqual(desk.tell("rings"), beside.tell("rings"))
        self.assertGreater(undone, 300)


if __name__ == "__main__":
    unittest.main()
