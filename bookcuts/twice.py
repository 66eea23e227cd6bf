"""Whether some text has two cuts: by a shortest such text, or by a paper that none has."""

from bookcuts.common import is_rising, is_text
from bookcuts.counted import cut_by

# Two rows of words are laid side by side, the shorter one going on. A rest is what the longer one has more; a step
# is a tuple (text, rest), the text being the longer one, joined. Where nothing is left the text has two cuts.


def first_steps(words):
    """The steps that two unlike words make of which one begins with the other."""
    return [
        (longer, longer[len(word):])
        for word in words for longer in words
        if word != longer and longer.startswith(word)
    ]


def left_of_longer(one, other):
    """What is left of the longer of two texts of which one begins with the other."""
    if len(one) > len(other):
        return one[len(other):]
    return other[len(one):]


def steps_behind(words, text, rest):
    """The steps that one more word makes, put behind the shorter row."""
    return [
        (text + word[len(rest):], left_of_longer(rest, word))
        for word in words
        if rest.startswith(word) or word.startswith(rest)
    ]


def texts_by_rest(words):
    """For each rest that is ever left the shortest text that leaves it, of several the first, as a dict.

    A step only puts letters behind its text, so the least text that waits is the least one for its rest.
    """
    texts = {}
    waiting = first_steps(words)
    while waiting:
        text, rest = min(waiting, key=lambda step: (len(step[0]), step[0]))
        texts[rest] = text
        waiting = waiting + steps_behind(words, text, rest)
        waiting = [step for step in waiting if step[1] not in texts]
    return texts


def words_of(book):
    """The words of the book."""
    return [word for word, weight in book]


def cut_twice(book):
    """The shortest text with two cuts, of several the first, and its first two cuts; None where the book is plain."""
    texts = texts_by_rest(words_of(book))
    if "" not in texts:
        return None
    text = texts[""]
    return text, cut_by(book, text, 0), cut_by(book, text, 1)


def plain_paper(book):
    """The least paper that the book is plain, or None where it is not."""
    texts = texts_by_rest(words_of(book))
    if "" in texts:
        return None
    return sorted(texts)


def is_rest_list(thing):
    """True where the thing is a rising list of texts, none of them without letters."""
    if not isinstance(thing, list) or not all(is_text(text) and text != "" for text in thing):
        return False
    return is_rising(thing)


def plain_shows(book, paper):
    """True where the paper shows that the book is plain."""
    if not is_rest_list(paper):
        return False
    words = words_of(book)
    # The text of a step does not matter here, only what it leaves.
    steps = first_steps(words) + [step for rest in paper for step in steps_behind(words, rest, rest)]
    kept = {rest: True for rest in paper}
    return all([rest in kept for text, rest in steps])
