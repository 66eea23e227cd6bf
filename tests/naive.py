"""Slow answers straight from the document's words, and inputs that several tests share."""

import itertools

from bookcuts.errors import NoText

NO_TEXTS = [
    None, True, False, 0, 1, -3, 10 ** 29, b"", b"ab", [], ["a"], ["a", "c"], (), ("a",), {}, {"a": 1},
    set(), {"a"}, object(), len, str, range(2), Exception("a"),
    "A", "aB", "Ab", " ", "a b", "ab ", " ab", "a1", "0", "a\n", "\n", "\t", "a-b", "-", "_", "`", "{", "~", "a{", "a`",
]

ANYTHING = NO_TEXTS + ["", "a", "ab", [[]], [None], [0], [True], [("a", 1)], [["a"]], [("a",)], [{}], [b"a"]]

PAIR_WORDS = ["a", "aa", "ab", "b", "ba", "bab"]


def small_books():
    """All books of at most three of the six words over a and b, the weights all unlike."""
    books = []
    for many in range(4):
        for words in itertools.combinations(PAIR_WORDS, many):
            books.append([(word, 3 * at - 2) for at, word in enumerate(words)])
    return books


def small_texts(most=5, letters="ab"):
    """All texts of the letters with at most so many of them."""
    return ["".join(signs) for many in range(most + 1) for signs in itertools.product(letters, repeat=many)]


def naive_words_at(book, text, place):
    return sorted([word for word, weight in book if text[place:].startswith(word)], key=len)


def naive_cuts(book, text):
    """All cuts, in the order of lists of texts."""
    if text == "":
        return [[]]
    cuts = []
    for word, weight in book:
        if text.startswith(word):
            cuts.extend([word] + rest for rest in naive_cuts(book, text[len(word):]))
    return sorted(cuts)


def naive_is_bar(book, text, places):
    if 0 not in places or len(text) in places:
        return False
    return all(place + len(word) in places for place in places for word in naive_words_at(book, text, place))


def naive_least_bar(book, text):
    if naive_cuts(book, text):
        return None
    return [place for place in range(len(text) + 1) if naive_cuts(book, text[:place])]


def naive_rows(book, many):
    """All rows of at most so many words, joined."""
    words = [word for word, weight in book]
    return ["".join(row) for length in range(many + 1) for row in itertools.product(words, repeat=length)]


def naive_lies_in(book, piece):
    # A row that has the piece in it needs no words but those that share a letter with the piece.
    return any(piece in row for row in naive_rows(book, len(piece)))


def naive_barring_stretch(book, text):
    for length in range(1, len(text) + 1):
        for start in range(len(text) - length + 1):
            if not naive_lies_in(book, text[start:start + length]):
                return (start, start + length)
    return None


def check_no_text(case, ask):
    """Of each thing that is no text of small letters, ask must refuse it with NoText."""
    for thing in NO_TEXTS:
        with case.subTest(thing=thing):
            with case.assertRaises(NoText):
                ask(thing)
