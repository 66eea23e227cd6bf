"""What several modules need: the kinds of values, where stretches of a text end, and all that is reached."""

from bookcuts.errors import NoText


def is_whole(thing):
    """True where the thing is a whole number."""
    # Python counts True and False among the ints; the document does not.
    return isinstance(thing, int) and not isinstance(thing, bool)


def is_text(thing):
    """True where the thing is a text of small letters, perhaps none."""
    # Not islower(): that also takes figures and signs beside letters.
    return isinstance(thing, str) and all("a" <= sign <= "z" for sign in thing)


def check_text(thing):
    """Refuse what is no text of small letters."""
    if not is_text(thing):
        raise NoText("a text of small letters is needed")


def is_place(thing, text):
    """True where the thing is a place from 0 to the text's length."""
    return is_whole(thing) and 0 <= thing <= len(text)


def is_rising(things):
    """True where each thing is greater than the one ahead."""
    for low, high in zip(things, things[1:]):
        if not low < high:
            return False
    return True


def longest_of(pieces):
    """The length of the longest of some texts, 0 where there are none."""
    return max([len(piece) for piece in pieces], default=0)


def ends_at(pieces, longest, text, place):
    """The ends, rising, of the stretches at the place that are among the pieces, a dict."""
    last = min(place + longest, len(text))
    return [end for end in range(place + 1, last + 1) if text[place:end] in pieces]


def stretch_ends(pieces, text):
    """For each place from 0 to the text's length what ends_at tells of it."""
    longest = longest_of(pieces)
    return [ends_at(pieces, longest, text, place) for place in range(len(text) + 1)]


def word_ends(book, text):
    """For each place from 0 to the text's length the ends of the book's words there, rising."""
    return stretch_ends(dict(book), text)


def all_reached(first, behind):
    """The first thing and all that is ever behind it, rising; behind tells of a list of things what is behind them."""
    reached = {first: True}
    latest = [first]
    while latest:
        things = behind(latest)
        latest = []
        for thing in things:
            if thing not in reached:
                reached[thing] = True
                latest.append(thing)
    return sorted(reached)
