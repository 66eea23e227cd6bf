"""Points 15 and 16, and what point 2 says of them: bookcuts.full."""

import copy
import itertools
import unittest

import naive
from bookcuts.errors import NoText
from bookcuts.full import full_paper, full_shows, least_uncut


def book_of(*words):
    return [(word, 1) for word in sorted(words)]


# What is a text, but none that rises, or not of one to four letters.
NO_LETTERS = ["", "aa", "ba", "aab", "abb", "abca", "acb", "dcba", "abcde", "abcdefghijklmnopqrstuvwxyz", "aaaaa"]

FULL = [
    (book_of("a"), "a"), (book_of("a", "aa"), "a"), (book_of("a", "b"), "a"), (book_of("a", "b"), "ab"),
    (book_of("a", "ab", "abb", "b"), "ab"), (book_of("a", "aba", "b", "bab", "x"), "ab"),
    (book_of("a", "b", "c", "d", "dcba", "abcd"), "abcd"), (book_of("a", "a" * 12), "a"),
    (book_of("a", "b", "xyz", "axb"), "ab"), (book_of("x", "z", "zzxxz"), "xz"),
]

NOT_FULL = [
    ([], "a", "a"), ([], "abcd", "a"), (book_of("a"), "b", "b"), (book_of("a"), "ab", "b"), (book_of("b"), "ab", "a"),
    (book_of("aa", "ab", "ba", "bb"), "ab", "a"), (book_of("a", "b", "cc"), "abc", "c"),
    (book_of("a", "ab", "ac", "d"), "abcd", "b"), (book_of("abc"), "z", "z"),
]


class LettersTest(unittest.TestCase):
    def check(self, ask):
        naive.check_no_text(self, ask)
        for letters in NO_LETTERS:
            with self.subTest(letters=letters):
                with self.assertRaises(NoText):
                    ask(letters)

    def test_no_letters(self):
        for book in [book_of("a", "b"), []]:
            self.check(lambda thing: least_uncut(book, thing))
            self.check(lambda thing: full_paper(book, thing))
            self.check(lambda thing: full_shows(book, thing, [[""]]))
            self.check(lambda thing: full_shows(book, thing, []))

    def test_one_to_four_letters(self):
        book = book_of("a", "b", "c", "m", "z")
        for letters in ["a", "z", "az", "bm", "abc", "amz", "abcz", "abmz"]:
            self.assertIsNone(least_uncut(book, letters))
            self.assertEqual(full_paper(book, letters), [[""]])
            self.assertIs(full_shows(book, letters, [[""]]), True)


class LeastUncutTest(unittest.TestCase):
    def test_full(self):
        for book, letters in FULL:
            self.assertIsNone(least_uncut(book, letters), (book, letters))

    def test_not_full(self):
        for book, letters, told in NOT_FULL:
            self.assertEqual(least_uncut(book, letters), told, (book, letters))

    def test_against_short_texts(self):
        books = naive.small_books() + [book for book, letters in FULL] + [row[0] for row in NOT_FULL]
        for book in books:
            for letters in ["a", "b", "ab", "ac", "abc"]:
                told = least_uncut(book, letters)
                self.assertEqual(told, naive.naive_least_uncut(book, letters, 4), (book, letters))

    def test_sixteen_signs(self):
        self.assertIsNone(least_uncut(book_of("a", "b", "aabbaabb", "babaab"), "ab"))
        self.assertEqual(least_uncut(book_of("aa", "ab", "ba", "bb", "aaa", "aab", "bb"), "ab"), "a")
        self.assertEqual(least_uncut(book_of("a", "aabbaabbaabb", "bbb"), "ab"), "b")


class FullPaperTest(unittest.TestCase):
    def test_full(self):
        self.assertEqual(full_paper(book_of("a"), "a"), [[""]])
        self.assertEqual(full_paper(book_of("a", "aa"), "a"), [[""], ["", "a"]])
        self.assertEqual(full_paper(book_of("a", "ab", "b"), "ab"), [[""], ["", "a"]])
        self.assertEqual(full_paper(book_of("a", "aba", "b"), "ab"), [[""], ["", "a"], ["", "ab"]])
        self.assertEqual(full_paper(book_of("a", "aaa"), "a"), [[""], ["", "a"], ["", "a", "aa"]])
        # Words of other letters stand in no row that is reached, but as far as they are of these.
        self.assertEqual(full_paper(book_of("a", "axa", "b", "xab"), "ab"), [[""], ["", "a"]])

    def test_not_full(self):
        for book, letters, told in NOT_FULL:
            self.assertIsNone(full_paper(book, letters), (book, letters))

    def test_against_rows_of_all_texts(self):
        books = naive.small_books() + [book for book, letters in FULL] + [row[0] for row in NOT_FULL]
        books += [book_of("a", "b", *some) for some in itertools.combinations(naive.small_texts(4)[3:], 2)]
        for book in books:
            for letters in ["a", "b", "ab", "bx"]:
                paper = full_paper(book, letters)
                self.assertEqual(paper, naive.naive_full_paper(book, letters), (book, letters))
                self.assertEqual(paper is None, least_uncut(book, letters) is not None)
                if paper is not None:
                    self.assertIs(full_shows(book, letters, paper), True)

    def test_the_least(self):
        for book, letters in FULL:
            paper = full_paper(book, letters)
            for at in range(len(paper)):
                self.assertIs(full_shows(book, letters, paper[:at] + paper[at + 1:]), False, (book, letters, at))

    def test_lists_of_lists(self):
        paper = full_paper(book_of("a", "aba", "b"), "ab")
        self.assertIsInstance(paper, list)
        self.assertTrue(all(isinstance(row, list) for row in paper))

    def test_sixteen_signs(self):
        for words, letters in [
            (("a", "b", "aabbaabb", "babaab"), "ab"), (("a", "b", "c", "d", "abcdabcdabcd"), "abcd"),
            (("a", "aaaaaaaaaaaa", "aaa"), "a"), (("a", "b", "aaaabaaaabaa"), "ab"),
        ]:
            book = book_of(*words)
            paper = full_paper(book, letters)
            self.assertEqual(paper, naive.naive_full_paper(book, letters))
            self.assertIs(full_shows(book, letters, paper), True)


class FullShowsTest(unittest.TestCase):
    BOOK = book_of("a", "aba", "b")
    PAPER = [[""], ["", "a"], ["", "ab"]]

    def shows(self, paper, letters="ab"):
        return full_shows(self.BOOK, letters, paper)

    def test_ordinary(self):
        self.assertIs(self.shows(self.PAPER), True)
        self.assertIs(self.shows(self.PAPER, "a"), True)
        self.assertIs(self.shows([[""], ["", "a"]], "a"), True)
        self.assertIs(self.shows([[""]], "b"), True)

    def test_rows_rise_each_once(self):
        for order in itertools.permutations(self.PAPER):
            self.assertIs(self.shows(list(order)), list(order) == self.PAPER)
        self.assertIs(self.shows([[""]] + self.PAPER), False)
        self.assertIs(self.shows(self.PAPER + [["", "ab"]]), False)

    def test_texts_of_a_row_rise_each_once(self):
        self.assertIs(self.shows([[""], ["", "a"], ["", "ab"], ["a", ""]]), False)
        self.assertIs(self.shows([[""], ["", ""], ["", "a"], ["", "ab"]]), False)
        self.assertIs(self.shows([[""], ["", "a"], ["", "a", "a"], ["", "ab"]]), False)
        self.assertIs(self.shows([[""], ["", "a"], ["", "ab"], ["", "ab", "a"]]), False)

    def test_rows_left_out(self):
        for at in range(3):
            self.assertIs(self.shows(self.PAPER[:at] + self.PAPER[at + 1:]), False, at)
        self.assertIs(self.shows([]), False)

    def test_the_paper_without_the_first_row(self):
        self.assertIs(self.shows([["", "a"], ["", "ab"]]), False)
        self.assertIs(full_shows(book_of("a", "aa"), "a", [["", "a"]]), False)
        self.assertIs(full_shows(book_of("a", "aa"), "a", [[""], ["", "a"]]), True)

    def test_rows_put_in(self):
        # The rows behind this one are there, too.
        self.assertIs(self.shows([[""], ["", "a"], ["", "a", "ab"], ["", "ab"]]), True)
        book = book_of("a", "abab", "b")
        self.assertIs(full_shows(book, "ab", full_paper(book, "ab")), True)
        # Behind ["", "aba"] and b stands [""], and behind it and a stands ["", "a"].
        self.assertIs(full_shows(book, "ab", [[""], ["", "a"], ["", "a", "aba"], ["", "ab"], ["", "aba"]]), True)
        # Behind ["", "a", "ab"] and a stands ["", "a", "aba"], which this one has not.
        self.assertIs(full_shows(book, "ab", [[""], ["", "a"], ["", "a", "ab"], ["", "ab"]]), False)

    def test_rows_without_the_text_without_letters(self):
        self.assertIs(self.shows([[], [""], ["", "a"], ["", "ab"]]), False)
        self.assertIs(self.shows([[""], ["", "a"], ["", "ab"], ["a"]]), False)
        self.assertIs(self.shows([[""], ["", "a"], ["", "ab"], ["ab"]]), False)
        self.assertIs(self.shows([[], [""]], "b"), False)

    def test_texts_that_begin_no_word(self):
        for text in ["aba", "b", "abab", "ba", "z", "x", "abz"]:
            self.assertIs(self.shows(sorted(self.PAPER + [["", text]])), False, text)
        # A word that begins a longer one may stand in a row, one that begins none may not.
        self.assertIs(full_shows(book_of("a", "ab", "b"), "ab", [[""], ["", "a"]]), True)
        self.assertIs(full_shows(book_of("a", "ab", "b"), "ab", [[""], ["", "a"], ["", "ab"]]), False)
        self.assertIs(full_shows(book_of("a", "b"), "ab", [[""], ["", "a"]]), False)

    def test_what_is_not_full_is_shown_by_none(self):
        book = book_of("a", "aba", "bb")
        rows = [list(row) for many in range(4) for row in itertools.combinations(["", "a", "ab", "b"], many)]
        for many in range(5):
            for paper in itertools.combinations(sorted(rows), many):
                self.assertIs(full_shows(book, "ab", list(paper)), False, paper)

    def test_papers_of_others(self):
        for (one, letters), (other, others) in itertools.permutations(FULL, 2):
            paper = full_paper(one, letters)
            expected = naive.naive_full_shows(other, others, paper)
            self.assertIs(full_shows(other, others, paper), expected, (one, other))
        # What shows of two letters shows of each of them, and not always of more.
        self.assertIs(full_shows(self.BOOK, "abc", self.PAPER), False)

    def test_all_small_papers(self):
        books = [[], book_of("a"), book_of("a", "b"), book_of("a", "aa"), book_of("a", "ab", "b"), book_of("ab", "b")]
        rows = [list(row) for many in range(3) for row in itertools.product(["", "a", "b"], repeat=many)]
        for book, letters in itertools.product(books, ["a", "b", "ab", "c"]):
            for many in range(4):
                for paper in itertools.product(rows, repeat=many):
                    told = full_shows(book, letters, list(paper))
                    self.assertIs(told, naive.naive_full_shows(book, letters, list(paper)), (book, letters, paper))

    def test_what_is_no_list_of_lists_of_texts(self):
        for paper in [tuple(self.PAPER), None, 0, "", {"": 1}]:
            self.assertIs(self.shows(paper), False, paper)
        for thing in naive.NO_TEXTS:
            self.assertIs(self.shows(self.PAPER + [["", thing]]), False, thing)
        for row in [None, 0, "b", ("", "a"), {"": 1}]:
            self.assertIs(self.shows(self.PAPER + [row]), False, row)
            self.assertIs(self.shows([row]), False, row)

    def test_the_book_without_words(self):
        for paper in [[], [[""]], [[], [""]], [["a"]]]:
            self.assertIs(full_shows([], "a", paper), False)


class KeepTest(unittest.TestCase):
    def test_what_is_handed_in_stays(self):
        book = book_of("a", "aba", "b")
        before = copy.deepcopy(book)
        paper = [[""], ["", "a"], ["", "ab"]]
        for letters in ["a", "ab", "abc"]:
            least_uncut(book, letters)
            full_paper(book, letters)
            full_shows(book, letters, paper)
        self.assertEqual(book, before)
        self.assertEqual(paper, [[""], ["", "a"], ["", "ab"]])

    def test_told_lists_are_the_askers_own(self):
        for book, letters in FULL:
            naive.check_own(self, lambda: full_paper(book, letters))

    def test_a_changed_book_is_seen(self):
        book = [("a", 1)]
        self.assertEqual(least_uncut(book, "ab"), "b")
        self.assertIsNone(full_paper(book, "ab"))
        book.append(("b", 1))
        self.assertIsNone(least_uncut(book, "ab"))
        self.assertEqual(full_paper(book, "ab"), [[""]])
        self.assertIs(full_shows(book, "ab", [[""]]), True)
        book.append(("ba", 1))
        self.assertIs(full_shows(book, "ab", [[""]]), False)


if __name__ == "__main__":
    unittest.main()
