"""The yard of a text."""

from sandyard.errors import NoText
from sandyard.things import is_yard

FIGURES = "0123456789"
YARD_WORDS = 2
LINK_WORDS = 4


def number_of(word):
    # No number of a yard has two figures, so a longer word is refused unread, however long it is.
    if len(word) != 1 or word not in FIGURES:
        raise NoText("a number of a yard is one figure")
    return FIGURES.index(word)


def numbers_behind(head, words):
    if words[0] != head:
        raise NoText("a part of the text doesn't begin with its word")
    return tuple([number_of(word) for word in words[1:]])


def read(text):
    # Split at each single blank: any blank too many leaves an empty word, which is no word of a yard.
    words = text.split(" ")
    if len(words) % LINK_WORDS != YARD_WORDS:
        raise NoText("the text has words too few or too many")
    count = numbers_behind("yard", words[:YARD_WORDS])[0]
    ties = tuple([
        numbers_behind("link", words[start:start + LINK_WORDS])
        for start in range(YARD_WORDS, len(words), LINK_WORDS)
    ])
    if not is_yard((count, ties)):
        raise NoText("the text tells of something that is no yard")
    return (count, ties)
