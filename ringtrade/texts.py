"""Wishes and owns as one text, written and read."""

from ringtrade.errors import NoText
from ringtrade.wishes import owns_of, wishes_of

LETTERS = "ABCDEFGH"


def word_text(thing, own):
    letter = LETTERS[thing]
    return letter + "*" if thing == own else letter


def row_text(row, own):
    return " ".join([word_text(thing, own) for thing in row])


def rows_text(wishes, owns):
    return "; ".join([row_text(row, own) for row, own in zip(wishes, owns)])


def is_starred(word):
    return word.endswith("*")


def letter_in(word):
    return word[:-1] if is_starred(word) else word


def is_word(word):
    letter = letter_in(word)
    # The length is asked too, for "" and "BC" are found in the letters as well.
    return len(letter) == 1 and letter in LETTERS


def is_part(words):
    starred = [word for word in words if is_starred(word)]
    return len(starred) < 2 and all([is_word(word) for word in words])


def row_in(words):
    return [LETTERS.index(letter_in(word)) for word in words]


def own_in(words):
    for word in words:
        if is_starred(word):
            return LETTERS.index(letter_in(word))
    return None


def rows_read(text):
    if not isinstance(text, str):
        raise NoText(-1)
    parts = [part.split(" ") for part in text.split("; ")]
    for at, words in enumerate(parts):
        if not is_part(words):
            raise NoText(at)
    wishes = wishes_of([row_in(words) for words in parts])
    return (wishes, owns_of(wishes, [own_in(words) for words in parts]))
