"""What stands in some cut of a text, and what stands in every one."""

from bookcuts.common import check_text, word_ends
from bookcuts.counted import counts_from
from bookcuts.errors import NoCut


def counts_to(ends):
    """For each place how many cuts the beginning of the text up to it has."""
    counts = [0] * len(ends)
    counts[0] = 1
    for place, there in enumerate(ends):
        for end in there:
            counts[end] += counts[place]
    return counts


def ends_where_cut(book, text):
    """For each place the ends of the words there, of a text that has a cut."""
    check_text(text)
    ends = word_ends(book, text)
    if counts_from(ends)[0] == 0:
        raise NoCut("a text that has a cut is needed")
    return ends


def word_shares(ends):
    """For each word at each place, rising, a tuple (place, end, in how many cuts it stands there)."""
    ahead = counts_to(ends)
    behind = counts_from(ends)
    return [(place, end, ahead[place] * behind[end]) for place, there in enumerate(ends) for end in there]


def some_words(book, text):
    """The tuples (place, word) such that in some cut the word begins at the place."""
    ends = ends_where_cut(book, text)
    return [(place, text[place:end]) for place, end, share in word_shares(ends) if share > 0]


def all_words(book, text):
    """The tuples (place, word) such that in every cut the word begins at the place."""
    ends = ends_where_cut(book, text)
    many = counts_from(ends)[0]
    return [(place, text[place:end]) for place, end, share in word_shares(ends) if share == many]


def all_places(book, text):
    """The places, 0 and the end too, at which every cut is cut."""
    ends = ends_where_cut(book, text)
    ahead = counts_to(ends)
    behind = counts_from(ends)
    return [place for place in range(len(ends)) if ahead[place] * behind[place] == behind[0]]
