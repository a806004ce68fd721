"""Lines told to a desk: their words, and the hands and things of which the words speak."""

from ringtrade.errors import NoLine
from ringtrade.texts import LETTERS
from ringtrade.wishes import things_in

FIGURES = "0123456"


def refuse_unless(fits):
    if not fits:
        raise NoLine("the desk knows no such line")


def words_in(line):
    refuse_unless(isinstance(line, str))
    return line.split(" ")


def text_in(words):
    refuse_unless(words)
    return " ".join(words)


def number_in(word, signs):
    # The length is asked too, for "" and "01" are found in the signs as well.
    refuse_unless(len(word) == 1 and word in signs)
    return signs.index(word)


def numbers_in(words, signs):
    refuse_unless(len(words) == len(signs))
    return [number_in(word, told) for word, told in zip(words, signs)]


def unlike_in(words, signs):
    numbers = numbers_in(words, signs)
    refuse_unless(len(set(numbers)) == len(numbers))
    return numbers


def figures_of(wishes):
    return FIGURES[:len(wishes)]


def letters_of(wishes):
    return LETTERS[:things_in(wishes)]


def hand_in(words, wishes):
    return numbers_in(words, [figures_of(wishes)])[0]


def hand_and_thing_in(words, wishes):
    return numbers_in(words, [figures_of(wishes), letters_of(wishes)])


def order_in(words, wishes):
    return unlike_in(words, [figures_of(wishes)] * len(wishes))


def dealing_in(words, wishes):
    return tuple(unlike_in(words, [letters_of(wishes)] * len(wishes)))
