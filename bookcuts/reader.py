"""A reader: it keeps its text while its book changes."""

from bookcuts.best import best_cut
from bookcuts.books import is_word
from bookcuts.common import check_text, is_whole, longest_of
from bookcuts.counted import cut_count
from bookcuts.errors import NoWord


def led_on(words, text, led):
    """For each place of the text whether a cut of its beginning leads there; led tells it of the first ones."""
    longest = longest_of(words)
    told = list(led)
    for end in range(len(led), len(text) + 1):
        first = max(0, end - longest)
        told.append(any([told[start] and text[start:end] in words for start in range(first, end)]))
    return told


def first_end(word, text):
    """The first place at which the word ends in the text, or the one behind the last where it stands nowhere."""
    start = text.find(word)
    if start < 0:
        return len(text) + 1
    return start + len(word)


def led_only_by(one, other):
    """The places to which the one list tells that cuts lead, and the other, perhaps a shorter one, does not."""
    return [place for place, led in enumerate(one) if led and not any(other[place:place + 1])]


class Reader:
    """A book that changes, at first without words, and a text that grows, at first without letters."""

    def __init__(self):
        self.weights = {}
        self.signs = ""
        # For each place whether a cut of the text's beginning leads there.
        self.led = [True]

    def lead_anew(self, first):
        """See anew to which places from the first one on cuts lead; tell those gone and those come."""
        before = self.led
        self.led = led_on(self.weights, self.signs, before[:first])
        return led_only_by(before, self.led), led_only_by(self.led, before)

    def put(self, word, weight):
        """Put a word with its weight, in the place of an elder weight; tell the places gone and come."""
        if not is_word(word):
            raise NoWord("a word of one to twelve small letters is needed")
        assert is_whole(weight)
        self.weights[word] = weight
        # No cut leads to another place than before ahead of the first end of the word.
        return self.lead_anew(first_end(word, self.signs))

    def drop(self, word):
        """Drop a word of the book; tell the places gone and come."""
        if not is_word(word) or word not in self.weights:
            raise NoWord("a word of the book is needed")
        del self.weights[word]
        return self.lead_anew(first_end(word, self.signs))

    def read(self, text):
        """Put a text behind the text; tell the places gone and come."""
        check_text(text)
        self.signs = self.signs + text
        return self.lead_anew(len(self.led))

    def book(self):
        """The book."""
        return sorted(self.weights.items())

    def text(self):
        """The text."""
        return self.signs

    def can(self):
        """True where the text has a cut."""
        return self.led[-1]

    def count(self):
        """How many cuts the text has."""
        return cut_count(self.book(), self.signs)

    def best(self, way):
        """The greatest worth of a cut and the first cut that has it, as a tuple, or None where there is no cut."""
        return best_cut(self.book(), self.signs, way)
