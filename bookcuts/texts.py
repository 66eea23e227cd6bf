"""Books written as a text, and read back."""

from bookcuts.books import is_book
from bookcuts.errors import NoWriting

NO_WORDS = "-"


def is_number(text):
    """True where the text writes a whole number, without + and without noughts ahead."""
    if text == "0":
        return True
    figures = text.removeprefix("-")
    if figures == "" or figures[0] == "0":
        return False
    # Not isdigit(): that also takes figures of other scripts.
    return all("0" <= sign <= "9" for sign in figures)


def show_book(book):
    """The writing of a book."""
    if not book:
        return NO_WORDS
    return " ".join([f"{word}={weight}" for word, weight in book])


def read_entry(text):
    """The tuple of a word and its weight that a text like ab=5 writes; whether it is a word is not seen to."""
    word, between, weight = text.partition("=")
    if not is_number(weight):
        raise NoWriting("a word, = and its weight are needed")
    return word, int(weight)


def read_book(text):
    """The book that the text writes."""
    if not isinstance(text, str):
        raise NoWriting("the writing of a book is a text")
    if text == NO_WORDS:
        return []
    book = [read_entry(part) for part in text.split(" ")]
    if not is_book(book):
        raise NoWriting("words of one to twelve small letters are needed, rising, each once")
    return book
