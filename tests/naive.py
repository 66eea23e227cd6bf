"""Slow answers straight from the document's words, and inputs that several tests share."""

import itertools
import sys

from bookcuts.errors import NoText

NO_TEXTS = [
    None, True, False, 0, 1, -3, 10 ** 29, b"", b"ab", [], ["a"], ["a", "c"], (), ("a",), {}, {"a": 1},
    set(), {"a"}, object(), len, str, range(2), Exception("a"),
    "A", "aB", "Ab", " ", "a b", "ab ", " ab", "a1", "0", "a\n", "\n", "\t", "a-b", "-", "_", "`", "{", "~", "a{", "a`",
]

ANYTHING = NO_TEXTS + ["", "a", "ab", [[]], [None], [0], [True], [("a", 1)], [["a"]], [("a",)], [{}], [b"a"]]

PAIR_WORDS = ["a", "aa", "ab", "b", "ba", "bab"]


def small_books():
    """All books of at most three of the six words over a and b, the weights all unlike."""
    books = []
    for many in range(4):
        for words in itertools.combinations(PAIR_WORDS, many):
            books.append([(word, 3 * at - 2) for at, word in enumerate(words)])
    return books


def small_texts(most=5, letters="ab"):
    """All texts of the letters with at most so many of them."""
    return ["".join(signs) for many in range(most + 1) for signs in itertools.product(letters, repeat=many)]


def naive_words_at(book, text, place):
    return sorted([word for word, weight in book if text[place:].startswith(word)], key=len)


def naive_cuts(book, text):
    """All cuts, in the order of lists of texts."""
    if text == "":
        return [[]]
    cuts = []
    for word, weight in book:
        if text.startswith(word):
            cuts.extend([word] + rest for rest in naive_cuts(book, text[len(word):]))
    return sorted(cuts)


def naive_is_bar(book, text, places):
    if 0 not in places or len(text) in places:
        return False
    return all(place + len(word) in places for place in places for word in naive_words_at(book, text, place))


def naive_least_bar(book, text):
    if naive_cuts(book, text):
        return None
    return [place for place in range(len(text) + 1) if naive_cuts(book, text[:place])]


def naive_rows(book, many):
    """All rows of at most so many words, joined."""
    words = [word for word, weight in book]
    return ["".join(row) for length in range(many + 1) for row in itertools.product(words, repeat=length)]


def naive_lies_in(book, piece):
    # A row that has the piece in it needs no words but those that share a letter with the piece.
    return any(piece in row for row in naive_rows(book, len(piece)))


def naive_barring_stretch(book, text):
    for length in range(1, len(text) + 1):
        for start in range(len(text) - length + 1):
            if not naive_lies_in(book, text[start:start + length]):
                return (start, start + length)
    return None


def check_no_text(case, ask):
    """Of each thing that is no text of small letters, ask must refuse it with NoText."""
    for thing in NO_TEXTS:
        with case.subTest(thing=thing):
            with case.assertRaises(NoText):
                ask(thing)


def naive_worth(book, way, cut):
    weights = dict(book)
    return -len(cut) if way == "fewest" else sum(weights[word] for word in cut)


def naive_best(book, text, way):
    """The best worth and the first cut that has it, found among all cuts."""
    cuts = naive_cuts(book, text)
    if not cuts:
        return None
    best = max(naive_worth(book, way, cut) for cut in cuts)
    return best, [cut for cut in cuts if naive_worth(book, way, cut) == best][0]


def naive_best_shows(book, text, way, worth, paper):
    if len(paper) != len(text) + 1 or paper[0] != 0 or paper[-1] != worth:
        return False
    for place, number in enumerate(paper):
        if number is not None:
            for word in naive_words_at(book, text, place):
                high = paper[place + len(word)]
                if high is None or high < number + naive_worth(book, way, [word]):
                    return False
    return True


def naive_placed(cut):
    """The tuples (place, word) of a cut."""
    return [(len("".join(cut[:at])), word) for at, word in enumerate(cut)]


def naive_first_twice(book):
    """The shortest text with two cuts, of several the first, or None.

    All texts are gone through in order, letter by letter; those of which the same is known are taken together. What
    is known of a text is in how many ways, one or more, it is a row of words and a beginning of a word behind it.
    """
    words = [word for word, weight in book]
    letters = sorted(set("".join(words)))
    starts = {word[:end] for word in words for end in range(1, len(word))}
    level = [("", {"": 1})]
    seen = set()
    while level:
        further = []
        for text, ways in level:
            for letter in letters:
                behind = {}
                for start, many in ways.items():
                    longer = start + letter
                    for key in [longer] * (longer in starts) + [""] * (longer in words):
                        behind[key] = min(2, behind.get(key, 0) + many)
                if behind.get("") == 2:
                    return text + letter
                if tuple(sorted(behind.items())) not in seen:
                    seen.add(tuple(sorted(behind.items())))
                    further.append((text + letter, behind))
        level = further
    return None


def naive_left(one, other):
    """What is left of the longer one where one of two texts begins with the other, as a list of at most one."""
    low, high = sorted([one, other], key=len)
    return [high[len(low):]] if high[:len(low)] == low else []


def naive_plain_needs(book, paper):
    """What must be in a paper that a book is plain, so that the texts in it may be."""
    words = [word for word, weight in book]
    needs = set()
    for low, high in itertools.combinations(words, 2):
        needs.update(naive_left(low, high))
    for text in paper:
        for word in words:
            needs.update(naive_left(text, word))
    return needs


def naive_plain_shows(book, paper):
    if paper != sorted(set(paper)) or "" in paper:
        return False
    return naive_plain_needs(book, paper) <= set(paper)


def naive_plain_paper(book):
    """The least paper, or None: what must be in it is put in until nothing is missing."""
    paper = set()
    while not naive_plain_needs(book, paper) <= paper:
        paper |= naive_plain_needs(book, paper)
        if "" in paper:
            return None
    return sorted(paper)


def naive_least_uncut(book, letters, most):
    """The first of the texts of at most so many letters that has no cut."""
    for text in small_texts(most, letters):
        if not naive_cuts(book, text):
            return text
    return None


def naive_is_start(book, text):
    return text == "" or any(word.startswith(text) and word != text for word, weight in book)


def naive_row_behind(book, row, letter):
    words = [word for word, weight in book]
    behind = set()
    for text in row:
        if any(word.startswith(text + letter) and word != text + letter for word in words):
            behind.add(text + letter)
        if text + letter in words:
            behind.add("")
    return sorted(behind)


def naive_full_shows(book, letters, paper):
    for low, high in zip(paper, paper[1:]):
        if not low < high:
            return False
    for row in paper:
        if row != sorted(set(row)) or "" not in row or not all(naive_is_start(book, text) for text in row):
            return False
        if not all(naive_row_behind(book, row, letter) in paper for letter in letters):
            return False
    return [""] in paper


def naive_full_paper(book, letters):
    """The least paper, or None: the rows of ever longer texts, until none is new."""
    paper = [[""]]
    level = [[""]]
    while level:
        level = [naive_row_behind(book, row, letter) for row in level for letter in letters]
        level = [row for at, row in enumerate(level) if row not in paper and row not in level[:at]]
        paper += level
    return sorted(paper) if all("" in row for row in paper) else None


def check_own(case, ask):
    """What ask tells, a list or a tuple with lists in it, is new each time, and no two lists in it are one."""
    first, second = ask(), ask()
    case.assertEqual(first, second)
    lists = lists_in(first) + lists_in(second)
    case.assertEqual(len({id(thing) for thing in lists}), len(lists))
    for thing in lists_in(first):
        thing.append("x")
    case.assertEqual(ask(), second)


def lists_in(thing):
    """The thing and all that is in it, as far as they are lists."""
    if not isinstance(thing, (list, tuple)):
        return []
    return [thing] * isinstance(thing, list) + [inner for part in thing for inner in lists_in(part)]


def naive_led(book, text):
    """The places to which cuts of the text's beginnings lead: those behind each that is found, until none is new."""
    led = {0}
    latest = {0}
    while latest:
        ends = {place + len(word) for place in latest for word, weight in book if text.startswith(word, place)}
        latest = ends - led
        led |= ends
    return sorted(led)


def naive_change(before, after):
    """The tuple (gone, come) of two lists of places."""
    return [place for place in before if place not in after], [place for place in after if place not in before]


def naive_parting(one, other, most, letters="ab"):
    """The first of the texts of at most so many letters that has a cut by one book alone."""
    for text in small_texts(most, letters):
        if (len(text) in naive_led(one, text)) != (len(text) in naive_led(other, text)):
            return text
    return None


def naive_letters(one, other):
    return sorted(set("".join(word for word, weight in one + other)))


def naive_pairs_behind(one, other, pair):
    row, row_of_other = pair
    return [
        (naive_row_behind(one, row, letter), naive_row_behind(other, row_of_other, letter))
        for letter in naive_letters(one, other)
    ]


def naive_same_paper(one, other):
    """The least paper, or None: the pairs of ever longer texts, until none is new."""
    paper = [([""], [""])]
    level = paper
    while level:
        level = [behind for pair in level for behind in naive_pairs_behind(one, other, pair)]
        level = [pair for at, pair in enumerate(level) if pair not in paper and pair not in level[:at]]
        paper = paper + level
    return sorted(paper) if all(("" in row) == ("" in behind) for row, behind in paper) else None


def naive_is_row(book, row):
    return row == sorted(set(row)) and all(naive_is_start(book, text) for text in row)


def naive_same_shows(one, other, paper):
    for low, high in zip(paper, paper[1:]):
        if not low < high:
            return False
    for pair in paper:
        if not naive_is_row(one, pair[0]) or not naive_is_row(other, pair[1]):
            return False
        if ("" in pair[0]) != ("" in pair[1]):
            return False
        if not all(behind in paper for behind in naive_pairs_behind(one, other, pair)):
            return False
    return ([""], [""]) in paper


def without_depth(ask):
    """Ask where Python allows for hardly more calls in one another than the tests need themselves."""
    limit = sys.getrecursionlimit()
    try:
        sys.setrecursionlimit(150)
        ask()
    finally:
        sys.setrecursionlimit(limit)
