"""Whether every text of some letters has a cut: by a shortest text without one, or by a paper that each has one."""

from bookcuts.common import all_reached, is_rising, is_text
from bookcuts.errors import NoText

MOST_LETTERS = 4


def check_letters(thing):
    """Refuse what is no rising text of one to four letters."""
    if not is_text(thing) or not 1 <= len(thing) <= MOST_LETTERS or not is_rising(thing):
        raise NoText("a rising text of one to four small letters is needed")


def least_uncut(book, letters):
    """The shortest text of the letters that has no cut, of several the first, or None where there is none."""
    check_letters(letters)
    words = dict(book)
    # A letter by itself is cut only where it is a word, and where each is one, every text is cut into its letters.
    for letter in letters:
        if letter not in words:
            return letter
    return None


def starts_of(book):
    """What may stand in a row: the text without letters, and each beginning of a word, shorter than it, as a dict."""
    starts = {word[:end]: True for word, weight in book for end in range(len(word))}
    starts[""] = True
    return starts


def row_behind(words, starts, row, letter):
    """The row behind a row and a letter, as a tuple."""
    longer = [start + letter for start in row]
    behind = {start: True for start in longer if start in starts}
    if any([start in words for start in longer]):
        behind[""] = True
    return tuple(sorted(behind))


def rows_behind(book, rows, letters):
    """The rows behind each of the rows and each letter, as tuples."""
    words = dict(book)
    starts = starts_of(book)
    return [row_behind(words, starts, row, letter) for row in rows for letter in letters]


def full_paper(book, letters):
    """The least paper that the book and the letters are full, or None where they are not."""
    if least_uncut(book, letters) is not None:
        return None
    rows = all_reached(("",), lambda latest: rows_behind(book, latest, letters))
    return [list(row) for row in rows]


def is_row(thing, starts):
    """True where the thing is a row: a rising list of what may stand in one."""
    if not isinstance(thing, list):
        return False
    # What is no string may be nothing that a dict can look up.
    if not all(isinstance(start, str) and start in starts for start in thing):
        return False
    return is_rising(thing)


def is_row_list(thing, starts):
    """True where the thing is a rising list of rows."""
    if not isinstance(thing, list) or not all(is_row(row, starts) for row in thing):
        return False
    return is_rising(thing)


def full_shows(book, letters, paper):
    """True where the paper shows that the book and the letters are full."""
    check_letters(letters)
    if not is_row_list(paper, starts_of(book)):
        return False
    if [""] not in paper or not all("" in row for row in paper):
        return False
    kept = {tuple(row): True for row in paper}
    return all([row in kept for row in rows_behind(book, paper, letters)])
