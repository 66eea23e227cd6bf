"""All cuts of a text, counted and by number."""

from bookcuts.books import is_cut
from bookcuts.common import check_text, is_whole, word_ends
from bookcuts.errors import NoCut, NoPlace


def counts_from(ends):
    """For each place how many cuts the rest of the text behind it has."""
    counts = [0] * len(ends)
    counts[-1] = 1
    for place in reversed(range(len(ends) - 1)):
        counts[place] = sum([counts[end] for end in ends[place]])
    return counts


def cut_count(book, text):
    """How many cuts the text has."""
    check_text(text)
    return counts_from(word_ends(book, text))[0]


def step_by(there, counts, number):
    """The end of the word that cut number begins with, and the cut's number among those that do so.

    there holds the ends of the words at a place, rising, and number is below the count of cuts from there on.
    """
    left = number
    at = 0
    while left >= counts[there[at]]:
        left -= counts[there[at]]
        at += 1
    return there[at], left


def cut_by(book, text, number):
    """The cut of a number, counted from 0 on in order."""
    check_text(text)
    ends = word_ends(book, text)
    counts = counts_from(ends)
    if not is_whole(number) or not 0 <= number < counts[0]:
        raise NoPlace("a number of a cut is needed")
    cut = []
    place = 0
    left = number
    while place < len(text):
        end, left = step_by(ends[place], counts, left)
        cut.append(text[place:end])
        place = end
    return cut


def number_of(book, text, cut):
    """The number of a cut, counted from 0 on in order."""
    if not is_cut(book, text, cut):
        raise NoCut("a cut of the text is needed")
    ends = word_ends(book, text)
    counts = counts_from(ends)
    number = 0
    place = 0
    for word in cut:
        behind = place + len(word)
        number += sum([counts[end] for end in ends[place] if end < behind])
        place = behind
    return number
