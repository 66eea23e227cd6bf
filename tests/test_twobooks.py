"""Points 18 and 19, and what points 2 and 3 say of them: bookcuts.twobooks."""

import copy
import itertools
import random
import unittest

import naive
from bookcuts.twobooks import parting_text, same_paper, same_shows
from bookcuts.whether import can_cut


def book_of(*words):
    return [(word, 1) for word in sorted(words)]


FIRST = ([""], [""])

# Pairs of books that cut the same texts.
SAME = [
    ([], []), (book_of("a"), book_of("a")), (book_of("a"), book_of("a", "aa")), (book_of("a", "b"), book_of("a", "ab", "b")),
    (book_of("aa"), book_of("aa", "aaaa")), (book_of("ab", "c"), book_of("ab", "abc", "c")),
    (book_of("aa", "aaa"), book_of("aa", "aaa", "aaaaa")), (book_of("a", "ba"), book_of("a", "aba", "ba", "baa")),
    (book_of("a", "aaa", "b"), book_of("a", "ab", "b", "bb")), (book_of("abc", "xyz"), book_of("abc", "abcxyz", "xyz")),
]

# Pairs of books that do not, and the shortest text that parts them, of several the first.
UNLIKE = [
    ([], book_of("a"), "a"), ([], book_of("aaa", "bb"), "bb"), (book_of("a"), book_of("b"), "a"),
    (book_of("a", "b"), book_of("a"), "b"), (book_of("aa"), book_of("aaa"), "aa"), (book_of("aa"), book_of("aaaa"), "aa"),
    (book_of("aa", "aaa"), book_of("aa", "aaaaa"), "aaa"), (book_of("ab", "b"), book_of("abb", "b"), "ab"),
    (book_of("a", "ab", "b"), book_of("a", "ab"), "b"), (book_of("a", "bab"), book_of("a", "abab", "babb"), "bab"),
    (book_of("z"), book_of("y"), "y"), (book_of("ab", "ba"), book_of("ab", "ba", "aabb"), "aabb"),
    (book_of("a", "z"), book_of("a", "za", "zz"), "z"),
]


def drawn_pairs(many, signs, letters):
    """So many pairs of books, the same each time, each of words that have at most so many signs in all.

    The second one has the words of the first, some left out, and rows of these put in.
    """
    draw = random.Random(3)
    pairs = []
    for turn in range(many):
        one = set()
        while not one or draw.random() < 0.7:
            one.add("".join(draw.choice(letters) for sign in range(draw.randint(1, draw.choice([2, 4, 12])))))
        other = {word for word in one if draw.random() < 0.9}
        for more in range(draw.randint(0, 2)):
            other.add("".join(draw.choice(sorted(one)) for word in range(draw.randint(1, 3)))[:12])
        if len("".join(one)) <= signs and len("".join(other)) <= signs:
            pairs.append((book_of(*one), book_of(*other)))
    return pairs


class PartingTextTest(unittest.TestCase):
    def test_same(self):
        for one, other in SAME:
            self.assertIsNone(parting_text(one, other), (one, other))
            self.assertIsNone(parting_text(other, one), (one, other))

    def test_unlike(self):
        for one, other, told in UNLIKE:
            self.assertEqual(parting_text(one, other), told, (one, other))
            self.assertEqual(parting_text(other, one), told, (one, other))

    def test_the_first_of_several(self):
        self.assertEqual(parting_text(book_of("b"), book_of("a", "c")), "a")
        self.assertEqual(parting_text(book_of("ba", "ab"), []), "ab")
        self.assertEqual(parting_text(book_of("zz"), book_of("abc")), "zz")

    def test_weights_do_not_matter(self):
        one = [("a", 1), ("ab", -5), ("b", 10 ** 29)]
        other = [("a", 7), ("b", 0)]
        self.assertIsNone(parting_text(one, other))
        self.assertIsNone(parting_text(one, [(word, -weight) for word, weight in one]))

    def test_against_short_texts(self):
        books = naive.small_books()
        for one, other in itertools.combinations_with_replacement(books, 2):
            told = parting_text(one, other)
            self.assertEqual(told, parting_text(other, one))
            # The longest text that parts two of these has three letters; of others all of six are gone through.
            self.assertEqual(told, naive.naive_parting(one, other, 3 if told else 6), (one, other))

    def test_a_drawn_book_and_its_kin(self):
        kinds = set()
        for one, other in drawn_pairs(400, 16, "ab"):
            told = parting_text(one, other)
            kinds.add(told is None)
            self.assertEqual(told, naive.naive_parting(one, other, len(told) if told else 7), (one, other))
        self.assertEqual(kinds, {True, False})

    def test_words_that_are_rows_of_others(self):
        self.assertEqual(parting_text(book_of("aa", "ab", "ba", "bb"), book_of("aa", "ab", "aba", "ba", "bb")), "aba")
        self.assertEqual(parting_text(book_of("aaa", "aaaaa"), book_of("aaa", "aaaaaaaa")), "aaaaa")
        self.assertIsNone(parting_text(book_of("aaa", "aaaaa"), book_of("aaa", "aaaaa", "aaaaaaaa")))
        # Each book has a word that is a row of the other's, and one more has a word that is none.
        self.assertIsNone(parting_text(book_of("a", "ab", "b"), book_of("a", "b", "ba")))
        self.assertEqual(parting_text(book_of("a", "ab", "b", "cab"), book_of("a", "b", "ba")), "cab")
        self.assertEqual(parting_text(book_of("a", "ab", "b"), book_of("a", "b", "ba", "cab", "cb")), "cb")


class SamePaperTest(unittest.TestCase):
    def test_told(self):
        self.assertEqual(same_paper([], []), [FIRST])
        self.assertEqual(same_paper(book_of("a"), book_of("a")), [FIRST])
        self.assertEqual(same_paper(book_of("a"), book_of("a", "aa")), [FIRST, ([""], ["", "a"])])
        self.assertEqual(same_paper(book_of("a", "aa"), book_of("a")), [FIRST, (["", "a"], [""])])
        self.assertEqual(
            same_paper(book_of("aa"), book_of("aa", "aaaa")),
            [FIRST, ([""], ["", "aa"]), (["a"], ["a"]), (["a"], ["a", "aaa"])])
        self.assertEqual(
            same_paper(book_of("a", "b"), book_of("a", "ab", "b")), [FIRST, ([""], ["", "a"])])
        # Behind the letters that lead to no word, the rows without texts.
        self.assertEqual(
            same_paper(book_of("ab"), book_of("ab")), [([], []), FIRST, (["a"], ["a"])])

    def test_unlike(self):
        for one, other, told in UNLIKE:
            self.assertIsNone(same_paper(one, other), (one, other))
            self.assertIsNone(same_paper(other, one), (one, other))

    def test_a_list_of_tuples_of_lists(self):
        paper = same_paper(book_of("ab", "c"), book_of("ab", "abc", "c"))
        self.assertIsInstance(paper, list)
        for pair in paper:
            self.assertIsInstance(pair, tuple)
            self.assertEqual([type(row) for row in pair], [list, list])

    def check(self, one, other):
        paper = same_paper(one, other)
        self.assertEqual(paper, naive.naive_same_paper(one, other), (one, other))
        self.assertEqual(paper is None, parting_text(one, other) is not None, (one, other))
        if paper is not None:
            self.assertIs(same_shows(one, other, paper), True, (one, other))
            self.assertEqual(paper, sorted(paper))

    def test_against_pairs_of_all_texts(self):
        for one, other in itertools.product(naive.small_books(), repeat=2):
            self.check(one, other)
        for one, other in SAME + drawn_pairs(400, 16, "ab") + drawn_pairs(200, 16, "abc"):
            self.check(one, other)
            self.check(other, one)
            self.check(one, one)

    def test_the_least(self):
        for one, other in SAME:
            paper = same_paper(one, other)
            for at in range(len(paper)):
                self.assertIs(same_shows(one, other, paper[:at] + paper[at + 1:]), False, (one, other, at))

    def test_other_weights(self):
        one = [("a", 1), ("ab", -5), ("b", 10 ** 29)]
        other = [("a", 3), ("ab", 0), ("b", 3)]
        paper = same_paper(one, other)
        self.assertEqual(paper, [FIRST, (["", "a"], ["", "a"])])
        self.assertEqual(paper, same_paper(one, one))
        self.assertIs(same_shows(other, one, paper), True)


class SameShowsTest(unittest.TestCase):
    ONE = book_of("aa")
    OTHER = book_of("aa", "aaaa")
    PAPER = [FIRST, ([""], ["", "aa"]), (["a"], ["a"]), (["a"], ["a", "aaa"])]

    def shows(self, paper):
        return same_shows(self.ONE, self.OTHER, paper)

    def test_ordinary(self):
        self.assertIs(self.shows(self.PAPER), True)
        self.assertIs(same_shows([], [], [FIRST]), True)
        self.assertIs(same_shows(book_of("a"), book_of("a"), [FIRST]), True)
        self.assertIs(same_shows(self.OTHER, self.ONE, self.PAPER), False)
        self.assertIs(same_shows(self.OTHER, self.ONE, sorted((high, low) for low, high in self.PAPER)), True)

    def test_pairs_rise_each_once(self):
        for order in itertools.permutations(self.PAPER):
            self.assertIs(self.shows(list(order)), list(order) == self.PAPER)
        for at, pair in enumerate(self.PAPER):
            self.assertIs(self.shows(self.PAPER[:at] + [pair] + self.PAPER[at:]), False)
            self.assertIs(self.shows(self.PAPER + [pair]), False)

    def test_texts_of_a_row_rise_each_once(self):
        for row in [["", ""], ["a", ""], ["aa", "a"], ["", "aa", "aa"], ["", "a", "aa", "a"]]:
            for pair in [(row, [""]), ([""], row), (row, row)]:
                self.assertIs(self.shows(sorted(self.PAPER + [pair])), False, pair)
                self.assertIs(same_shows([], [], sorted([FIRST, pair])), False, pair)

    def test_pairs_left_out(self):
        for many in range(4):
            for fewer in itertools.combinations(self.PAPER, many):
                self.assertIs(self.shows(list(fewer)), False, fewer)

    def test_without_the_first_pair(self):
        self.assertIs(self.shows(self.PAPER[1:]), False)
        self.assertIs(same_shows([], [], []), False)
        self.assertIs(same_shows([], [], [([], [])]), False)
        self.assertIs(same_shows(book_of("a"), book_of("a"), [([], [])]), False)
        # Each pair behind each of these is there.
        self.assertIs(same_shows(book_of("a"), book_of("a", "aa"), [([""], ["", "a"])]), False)
        self.assertIs(same_shows(book_of("a"), book_of("a", "aa"), [FIRST, ([""], ["", "a"])]), True)

    def test_pairs_put_in(self):
        # Behind the rows without texts stand these themselves.
        self.assertIs(self.shows([([], [])] + self.PAPER), True)
        self.assertIs(same_shows([], [], [([], []), FIRST]), True)
        # Behind this one stands the first pair.
        self.assertIs(self.shows(self.PAPER + [(["a"], ["aaa"])]), True)
        # Behind these stand pairs that are not there.
        self.assertIs(self.shows(sorted(self.PAPER + [([], ["a"])])), False)
        self.assertIs(self.shows(sorted(self.PAPER + [(["a"], [])])), False)

    def test_a_pair_put_in_of_which_all_behind_is_there(self):
        one = book_of("ab", "b")
        paper = same_paper(one, one)
        self.assertEqual(paper, [([], []), FIRST, (["a"], ["a"])])
        self.assertIs(same_shows(one, one, sorted(paper + [(["", "a"], ["", "a"])])), True)
        # Behind this one and b stands "" in the one row alone.
        self.assertIs(same_shows(one, one, sorted(paper + [(["a"], [])])), False)

    def test_the_text_without_letters_in_one_row_alone(self):
        for pair in [([], [""]), ([""], []), (["", "a"], ["a"]), (["a"], ["", "a"]), (["a"], [""])]:
            self.assertIs(self.shows(sorted(self.PAPER + [pair])), False, pair)
            self.assertIs(self.shows(sorted(self.PAPER + [([], []), pair])), False, pair)
        self.assertIs(same_shows([], [], [([], []), ([], [""]), FIRST]), False)
        self.assertIs(same_shows([], [], [([], []), FIRST, ([""], [])]), False)

    def test_whole_words_and_no_beginnings(self):
        for row in [["aa"], ["aaaa"], ["aaa"], ["b"], ["ab"], ["z"]]:
            both = ([], row), (row, [])
            for pair in both:
                paper = sorted(self.PAPER + [([], []), pair])
                self.assertIs(self.shows(paper), False, pair)
        # aa begins a word of the other book, but is one that begins none of the one book.
        self.assertIs(self.shows(sorted(self.PAPER + [([], []), (["", "aa"], [""])])), False)
        self.assertIs(same_shows(book_of("a"), book_of("a"), [FIRST, (["", "a"], ["", "a"])]), False)
        # Behind this pair stands the first one, and the text is no beginning of a word of the one book.
        self.assertIs(same_shows(book_of("a"), book_of("a", "ab", "b"), [FIRST, ([""], ["", "a"]), (["", "a"], [""])]), False)

    def test_letters_of_either_book(self):
        # b stands in words of the one book alone.
        self.assertIs(same_shows(book_of("a", "b"), book_of("a"), [FIRST]), False)
        self.assertIs(same_shows(book_of("a"), book_of("a", "b"), [FIRST]), False)
        self.assertIs(same_shows(book_of("a"), [], [FIRST]), False)
        self.assertIs(same_shows([], book_of("z"), [FIRST]), False)
        one = book_of("ab", "c")
        self.assertEqual(same_paper(one, one), [([], []), FIRST, (["a"], ["a"])])
        self.assertIs(same_shows(one, one, [FIRST, (["a"], ["a"])]), False)

    def test_papers_of_other_books(self):
        for (one, other), (third, fourth) in itertools.permutations(SAME, 2):
            paper = same_paper(one, other)
            expected = naive.naive_same_shows(third, fourth, paper)
            self.assertIs(same_shows(third, fourth, paper), expected, (one, other, third, fourth))
        for one, other, told in UNLIKE:
            for paper in [same_paper(one, one), same_paper(other, other)]:
                self.assertIs(same_shows(one, other, paper), False)
                self.assertIs(same_shows(other, one, paper), False)

    def test_what_is_parted_is_shown_by_none(self):
        one, other = book_of("aa"), book_of("aaa")
        rows = [list(row) for many in range(3) for row in itertools.combinations(["", "a", "aa"], many)]
        pairs = sorted(itertools.product(rows, repeat=2))
        for many in range(4):
            for paper in itertools.combinations(pairs, many):
                self.assertIs(same_shows(one, other, list(paper)), False, paper)

    def test_all_small_papers(self):
        books = [[], book_of("a"), book_of("aa"), book_of("a", "aa"), book_of("ab", "b"), book_of("a", "b")]
        rows = [list(row) for row in [[], [""], ["a"], ["", "a"], ["a", ""], ["", ""]]]
        pairs = list(itertools.product(rows, repeat=2))
        for one, other in itertools.product(books, repeat=2):
            for many in range(3):
                for paper in itertools.product(pairs, repeat=many):
                    told = same_shows(one, other, list(paper))
                    self.assertIs(told, naive.naive_same_shows(one, other, list(paper)), (one, other, paper))

    def test_rising_papers(self):
        books = [[], book_of("a"), book_of("a", "aa"), book_of("ab", "b"), book_of("ab", "abb", "b"), book_of("a", "b")]
        rows = [[], [""], ["a"], ["", "a"], ["", "ab"]]
        pairs = sorted(itertools.product(rows, repeat=2))
        shown = 0
        for one, other in itertools.product(books, repeat=2):
            for many in range(4):
                for paper in itertools.combinations(pairs, many):
                    told = same_shows(one, other, list(paper))
                    self.assertIs(told, naive.naive_same_shows(one, other, list(paper)), (one, other, paper))
                    shown += told
        self.assertGreater(shown, 10)

    def test_what_is_no_list_of_pairs(self):
        for paper in [tuple(self.PAPER), None, 0, "", "ab", {FIRST[0][0]: 1}, FIRST]:
            self.assertIs(self.shows(paper), False, paper)
        for pair in [None, 0, "ab", [[""], [""]], ([""],), ([""], [""], [""]), (), ("", ""), (("",), ("",)), {"": 1}]:
            self.assertIs(self.shows([pair]), False, pair)
            self.assertIs(self.shows(self.PAPER + [pair]), False, pair)
        for thing in naive.NO_TEXTS:
            self.assertIs(self.shows(self.PAPER + [(["a", thing], ["a"])]), False, thing)
            self.assertIs(self.shows(self.PAPER + [(["a"], [thing])]), False, thing)

    def test_the_books_without_words(self):
        for paper in [[], [([], [])], [FIRST, FIRST], [([""], ["", "a"])], [FIRST, (["a"], ["a"])]]:
            self.assertIs(same_shows([], [], paper), False, paper)


class BoundsTest(unittest.TestCase):
    def check(self, one, other):
        told, paper = parting_text(one, other), same_paper(one, other)
        self.assertEqual(told is None, paper is not None)
        if paper is None:
            self.assertNotEqual(can_cut(one, told), can_cut(other, told))
        else:
            self.assertIs(same_shows(one, other, paper), True)
            self.assertEqual(paper, naive.naive_same_paper(one, other))

    def test_sixteen_signs(self):
        for words in [
            ("a" * 7, "a" * 9), ("a" * 5, "a" * 11), ("a" * 4, "a" * 12), ("aaaa", "aabbbba", "b", "bbaa"),
            ("abababababab", "abab"), tuple("abcdefghijklmnop"), ("abcdefgh", "ijklmnop"), ("a", "aa", "aaa", "aaaa", "aaaaaa"),
        ]:
            book = book_of(*words)
            self.check(book, book)
            self.check(book, book[1:])
            self.check(book[:-1], book)
        self.check(book_of("aaaaa", "aaaaaaaaaaa"), book_of("aaaaaaa", "aaaaaaaaa"))
        self.check(book_of("aaaa", "aaaaaaaaaaaa"), book_of("aaaa"))
        self.check(book_of(*"abcdefghijklmnop"), book_of("q", "r", "abcdefghijkl"))

    def test_no_deep_recursion(self):
        naive.without_depth(lambda: self.check(book_of("a" * 7, "a" * 9), book_of("a" * 7, "a" * 9)))
        naive.without_depth(lambda: self.check(book_of("a" * 4, "a" * 12), book_of("a" * 4)))


class KeepTest(unittest.TestCase):
    def test_what_is_handed_in_stays(self):
        for one, other in SAME + [pair[:2] for pair in UNLIKE]:
            kept = copy.deepcopy((one, other))
            paper = [FIRST, ([""], ["", "a"])]
            parting_text(one, other)
            same_paper(one, other)
            same_shows(one, other, paper)
            self.assertEqual((one, other), kept)
            self.assertEqual(paper, [([""], [""]), ([""], ["", "a"])])

    def test_told_lists_are_the_askers_own(self):
        for one, other in SAME:
            naive.check_own(self, lambda: same_paper(one, other))
            naive.check_own(self, lambda: same_paper(one, one))

    def test_a_changed_book_is_seen(self):
        one, other = [("a", 1)], [("a", 1)]
        self.assertIsNone(parting_text(one, other))
        other.append(("aa", 1))
        self.assertEqual(same_paper(one, other), [FIRST, ([""], ["", "a"])])
        other.append(("b", 1))
        self.assertEqual(parting_text(one, other), "b")
        self.assertIsNone(same_paper(one, other))
        one.append(("b", 1))
        self.assertIsNone(parting_text(one, other))


if __name__ == "__main__":
    unittest.main()
