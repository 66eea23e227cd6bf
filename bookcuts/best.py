"""The best cut of a text, of the fewest words or the heaviest, and papers that show that none is better."""

from bookcuts.common import check_text, is_whole, word_ends


def word_worths(book, way):
    """What each word of the book is worth, as a dict."""
    if way == "fewest":
        return {word: -1 for word, weight in book}
    assert way == "heaviest"
    return dict(book)


def steps_of(book, text, way):
    """For each place of the text the words there, shorter ones first, as tuples (end, worth)."""
    worths = word_worths(book, way)
    ends = word_ends(book, text)
    return [[(end, worths[text[place:end]]) for end in there] for place, there in enumerate(ends)]


def best_rests(steps):
    """For each place the greatest worth of a cut of the rest of the text behind it, or None."""
    rests = [None] * len(steps)
    rests[-1] = 0
    for place in reversed(range(len(steps) - 1)):
        worths = [worth + rests[end] for end, worth in steps[place] if rests[end] is not None]
        rests[place] = max(worths, default=None)
    return rests


def best_end(there, rests, best):
    """The end of the shortest of the words at a place that a rest of the best worth begins with."""
    return min([end for end, worth in there if rests[end] is not None and worth + rests[end] == best])


def best_cut(book, text, way):
    """The greatest worth of a cut and the first cut that has it, as a tuple, or None where there is no cut."""
    check_text(text)
    steps = steps_of(book, text, way)
    rests = best_rests(steps)
    if rests[0] is None:
        return None
    cut = []
    place = 0
    while place < len(text):
        end = best_end(steps[place], rests, rests[place])
        cut.append(text[place:end])
        place = end
    return rests[0], cut


def best_paper(book, text, way):
    """A paper that shows the best worth, or None where there is no cut.

    For each place it holds the greatest worth of a cut of the text's beginning up to there.
    """
    check_text(text)
    paper = [None] * (len(text) + 1)
    paper[0] = 0
    for place, there in enumerate(steps_of(book, text, way)):
        if paper[place] is not None:
            for end, worth in there:
                reached = paper[place] + worth
                if paper[end] is None or paper[end] < reached:
                    paper[end] = reached
    if paper[-1] is None:
        return None
    return paper


def is_paper(thing, text):
    """True where the thing is a list of whole numbers and None, one for each place of the text."""
    if not isinstance(thing, list) or len(thing) != len(text) + 1:
        return False
    return all(number is None or is_whole(number) for number in thing)


def holds_at(paper, place, there):
    """True where the words at the place lead to no number that is too low, or to None."""
    if paper[place] is None:
        return True
    return all([paper[end] is not None and paper[end] >= paper[place] + worth for end, worth in there])


def best_shows(book, text, way, worth, paper):
    """True where the paper shows the worth: that no cut of the text is worth more."""
    check_text(text)
    if not is_paper(paper, text) or not is_whole(worth):
        return False
    if paper[0] != 0 or paper[-1] != worth:
        return False
    steps = steps_of(book, text, way)
    return all([holds_at(paper, place, there) for place, there in enumerate(steps)])
