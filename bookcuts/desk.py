"""A desk: rows that change or ask one reader, answered by texts."""

from bookcuts.books import is_word
from bookcuts.common import is_text
from bookcuts.errors import NoRow
from bookcuts.reader import Reader
from bookcuts.texts import is_number, show_book
from bookcuts.twice import cut_twice
from bookcuts.whether import first_cut, least_bar

MOST_FIGURES = 9


def check_row(holds):
    """Refuse a row of which what must hold of its words does not."""
    if not holds:
        raise NoRow("a row that the desk knows is needed")


def show_places(places):
    """Places with commas between, or - where there are none."""
    return ",".join([str(place) for place in places]) or "-"


def show_change(change):
    """The places gone and come, with a blank between."""
    gone, come = change
    return f"{show_places(gone)} {show_places(come)}"


def is_weight(text):
    """True where the text writes a weight that may be put at a desk."""
    return is_number(text) and len(text.removeprefix("-")) <= MOST_FIGURES


def say_put(reader, word, weight):
    """Put a word with its weight."""
    check_row(is_word(word) and is_weight(weight))
    return show_change(reader.put(word, int(weight)))


def say_drop(reader, word):
    """Drop a word."""
    check_row(is_word(word))
    return show_change(reader.drop(word))


def say_text(reader, letters):
    """Put letters behind the text."""
    check_row(is_text(letters) and letters != "")
    return show_change(reader.read(letters))


def say_best(reader, way):
    """The worth of the best cut and its words."""
    check_row(way in ("fewest", "heaviest"))
    best = reader.best(way)
    if best is None:
        return "none"
    worth, cut = best
    return " ".join([str(worth)] + cut)


def say_cut(reader):
    """The first cut."""
    cut = first_cut(reader.book(), reader.text())
    if cut is None:
        return "none"
    return " ".join(cut) or "-"


def say_count(reader):
    """How many cuts there are."""
    return str(reader.count())


def say_bar(reader):
    """The least bar."""
    bar = least_bar(reader.book(), reader.text())
    if bar is None:
        return "none"
    return " ".join([str(place) for place in bar])


def say_book(reader):
    """The writing of the book."""
    return show_book(reader.book())


def say_plain(reader):
    """Whether the book is plain, or else the shortest text with two cuts."""
    twice = cut_twice(reader.book())
    if twice is None:
        return "yes"
    return twice[0]


ROWS_OF_ONE = {"cut": say_cut, "count": say_count, "bar": say_bar, "book": say_book, "plain": say_plain}
ROWS_OF_TWO = {"drop": say_drop, "text": say_text, "best": say_best}


def answer(reader, words):
    """The answer to a row of these words."""
    if len(words) == 1 and words[0] in ROWS_OF_ONE:
        ask = ROWS_OF_ONE[words[0]]
        return ask(reader)
    if len(words) == 2 and words[0] in ROWS_OF_TWO:
        say = ROWS_OF_TWO[words[0]]
        return say(reader, words[1])
    check_row(len(words) == 3 and words[0] == "put")
    return say_put(reader, words[1], words[2])


class Desk:
    """A desk with one reader."""

    def __init__(self):
        self.reader = Reader()

    def say(self, row):
        """The answer to a row of words parted by single blanks."""
        check_row(isinstance(row, str))
        return answer(self.reader, row.split(" "))
