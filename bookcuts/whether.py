"""Whether a text can be cut: by a first cut, by a bar, or by a stretch that lies in no row of words."""

from bookcuts.common import check_text, is_place, is_rising, stretch_ends, word_ends


def led_to(ends):
    """For each place whether a cut of the text's beginning leads to it."""
    led = [False] * len(ends)
    led[0] = True
    for place, there in enumerate(ends):
        if led[place]:
            for end in there:
                led[end] = True
    return led


def leading_on(ends):
    """For each place whether the rest of the text behind it has a cut."""
    leads = [False] * len(ends)
    leads[-1] = True
    for place in reversed(range(len(ends) - 1)):
        leads[place] = any([leads[end] for end in ends[place]])
    return leads


def can_cut(book, text):
    """True where the text has a cut."""
    check_text(text)
    return led_to(word_ends(book, text))[-1]


def first_cut(book, text):
    """The first cut of the text, or None."""
    check_text(text)
    ends = word_ends(book, text)
    leads = leading_on(ends)
    if not leads[0]:
        return None
    cut = []
    place = 0
    while place < len(text):
        behind = min([end for end in ends[place] if leads[end]])
        cut.append(text[place:behind])
        place = behind
    return cut


def is_place_list(thing, text):
    """True where the thing is a rising list of places of the text."""
    if not isinstance(thing, list):
        return False
    if not all(is_place(place, text) for place in thing):
        return False
    return is_rising(thing)


def is_bar(book, text, places):
    """True where the thing handed in as places is a bar of the text."""
    check_text(text)
    if not is_place_list(places, text):
        return False
    barred = {place: True for place in places}
    if 0 not in barred or len(text) in barred:
        return False
    ends = word_ends(book, text)
    return all([end in barred for place in places for end in ends[place]])


def least_bar(book, text):
    """The least bar of a text without a cut, or None where there is a cut."""
    check_text(text)
    led = led_to(word_ends(book, text))
    if led[-1]:
        return None
    return [place for place in range(len(led)) if led[place]]


def beginnings(book):
    """The beginnings of the book's words, the words too, as a dict."""
    return {word[:end]: True for word, weight in book for end in range(1, len(word) + 1)}


def endings(book):
    """The endings of the book's words, the words too, as a dict."""
    return {word[start:]: True for word, weight in book for start in range(len(word))}


def insides(book):
    """All stretches of the book's words, as a dict."""
    tails = endings(book)
    return {tail[:end]: True for tail in tails for end in range(1, len(tail) + 1)}


def farthest_from_cuts(book, text):
    """For each place the farthest end of a stretch there that some words, and a beginning of one, make."""
    words = word_ends(book, text)
    starts = stretch_ends(beginnings(book), text)
    far = list(range(len(text) + 1))
    for place in reversed(range(len(text))):
        far[place] = max([place] + starts[place] + [far[end] for end in words[place]])
    return far


def farthest_ends(book, text):
    """For each place the farthest end of a stretch there that lies in a row of words.

    Shorter stretches from the same place lie in the same row, so this one number tells of all of them.
    """
    within = stretch_ends(insides(book), text)
    tails = stretch_ends(endings(book), text)
    far = farthest_from_cuts(book, text)
    return [
        max([far[place]] + within[place] + [far[end] for end in tails[place]])
        for place in range(len(text) + 1)
    ]


def lies_in(book, piece):
    """True where some words of the book, joined, have the piece in them."""
    check_text(piece)
    return farthest_ends(book, piece)[0] == len(piece)


def barring_stretch(book, text):
    """The shortest stretch (a, b) that lies in no row of words, the one with the least a, or None."""
    check_text(text)
    far = farthest_ends(book, text)
    stretches = [(place, end + 1) for place, end in enumerate(far) if end < len(text)]
    return min(stretches, key=lambda stretch: (stretch[1] - stretch[0], stretch[0]), default=None)
