"""Whether two books cut the same texts: by a shortest text that parts them, or by a paper that none does."""

from bookcuts.common import all_reached, is_rising
from bookcuts.full import is_row, row_behind, starts_of
from bookcuts.whether import can_cut

# A pair holds the rows that one text leads to, of the one book and of the other; the text without letters leads here.
FIRST_PAIR = (("",), ("",))


def uncut_words(one, other):
    """The words of the one book that have no cut by the other."""
    return [word for word, weight in one if not can_cut(other, word)]


def parting_text(one, other):
    """The shortest text that has a cut by one book alone, of several the first, or None where there is none."""
    # It is a word: were it a row of shorter ones, none of these would part the books, and both would cut it, too.
    words = uncut_words(one, other) + uncut_words(other, one)
    return min(words, key=lambda word: (len(word), word), default=None)


def letters_of(one, other):
    """The letters that stand in a word of either book, rising."""
    return sorted({letter for word, weight in one + other for letter in word})


def pairs_behind(one, other, pairs):
    """The pairs behind each of the pairs and each letter, as tuples of tuples."""
    words, other_words = dict(one), dict(other)
    starts, other_starts = starts_of(one), starts_of(other)
    letters = letters_of(one, other)
    return [
        (row_behind(words, starts, row, letter), row_behind(other_words, other_starts, other_row, letter))
        for row, other_row in pairs for letter in letters
    ]


def same_paper(one, other):
    """The least paper that two books cut the same texts, or None where they do not."""
    if parting_text(one, other) is not None:
        return None
    pairs = all_reached(FIRST_PAIR, lambda latest: pairs_behind(one, other, latest))
    return [(list(row), list(other_row)) for row, other_row in pairs]


def is_pair(thing, starts, other_starts):
    """True where the thing is a tuple of a row of the one book and a row of the other."""
    if not isinstance(thing, tuple) or len(thing) != 2:
        return False
    return is_row(thing[0], starts) and is_row(thing[1], other_starts)


def is_pair_list(thing, starts, other_starts):
    """True where the thing is a rising list of pairs."""
    if not isinstance(thing, list) or not all(is_pair(pair, starts, other_starts) for pair in thing):
        return False
    return is_rising(thing)


def same_shows(one, other, paper):
    """True where the paper shows that the two books cut the same texts."""
    if not is_pair_list(paper, starts_of(one), starts_of(other)):
        return False
    if not all([("" in row) == ("" in other_row) for row, other_row in paper]):
        return False
    kept = {(tuple(row), tuple(other_row)): True for row, other_row in paper}
    return FIRST_PAIR in kept and all([pair in kept for pair in pairs_behind(one, other, paper)])
