"""Books, the words at a place of a text, cuts and their weights."""

from bookcuts.common import check_text, ends_at, is_place, is_rising, is_text, is_whole, longest_of
from bookcuts.errors import NoCut, NoPlace

MOST_LETTERS = 12


def is_word(thing):
    """True where the thing is a word: one to twelve small letters."""
    return is_text(thing) and 1 <= len(thing) <= MOST_LETTERS


def is_entry(thing):
    """True where the thing is a tuple of a word and a weight."""
    if not isinstance(thing, tuple) or len(thing) != 2:
        return False
    return is_word(thing[0]) and is_whole(thing[1])


def is_book(thing):
    """True where the thing is a book."""
    if not isinstance(thing, list):
        return False
    if not all(is_entry(entry) for entry in thing):
        return False
    return is_rising([entry[0] for entry in thing])


def words_at(book, text, place):
    """The words of the book that begin at the place, shorter ones first."""
    check_text(text)
    if not is_place(place, text):
        raise NoPlace("a place from 0 to the text's length is needed")
    words = dict(book)
    return [text[place:end] for end in ends_at(words, longest_of(words), text, place)]


def is_cut(book, text, cut):
    """True where the thing handed in as a cut is one of the text."""
    check_text(text)
    if not isinstance(cut, list):
        return False
    words = dict(book)
    for word in cut:
        # What is no string may be nothing that a dict can look up.
        if not isinstance(word, str) or word not in words:
            return False
    return "".join(cut) == text


def weight_of(book, text, cut):
    """The sum of the weights of a cut's words."""
    if not is_cut(book, text, cut):
        raise NoCut("a cut of the text is needed")
    weights = dict(book)
    return sum([weights[word] for word in cut])
