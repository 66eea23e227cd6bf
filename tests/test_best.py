"""Points 10 and 11, and what point 2 says of them: bookcuts.best."""

import copy
import itertools
import unittest

import naive
from bookcuts.best import best_cut, best_paper, best_shows
from bookcuts.books import is_cut, weight_of

WAYS = ["fewest", "heaviest"]
BOOK = [("a", 3), ("aa", 5), ("aab", -4), ("ab", 2), ("b", 1)]
MANY = [("a" * length, length) for length in range(1, 13)]
BIG = 10 ** 30 - 1


class BestCutTest(unittest.TestCase):
    def test_fewest(self):
        self.assertEqual(best_cut(BOOK, "aab", "fewest"), (-1, ["aab"]))
        self.assertEqual(best_cut(BOOK, "aaba", "fewest"), (-2, ["aab", "a"]))
        self.assertEqual(best_cut(BOOK, "b", "fewest"), (-1, ["b"]))

    def test_heaviest(self):
        self.assertEqual(best_cut(BOOK, "aab", "heaviest"), (7, ["a", "a", "b"]))
        self.assertEqual(best_cut([("a", 1), ("aa", 5), ("b", 1)], "aab", "heaviest"), (6, ["aa", "b"]))

    def test_tuples_and_lists(self):
        for way in WAYS:
            told = best_cut(BOOK, "aab", way)
            self.assertIsInstance(told, tuple)
            self.assertIsInstance(told[1], list)

    def test_the_first_of_several_of_the_same_worth(self):
        self.assertEqual(best_cut([("a", 1), ("ab", 1), ("b", 1), ("bb", 1)], "abb", "fewest"), (-2, ["a", "bb"]))
        self.assertEqual(best_cut(BOOK, "aaa", "fewest"), (-2, ["a", "aa"]))
        even = [("a", 1), ("aa", 2), ("aaa", 3)]
        self.assertEqual(best_cut(even, "aaa", "heaviest"), (3, ["a", "a", "a"]))
        nothing = [("a", 0), ("aa", 0), ("aaa", 0)]
        self.assertEqual(best_cut(nothing, "aaa", "heaviest"), (0, ["a", "a", "a"]))

    def test_the_best_of_a_beginning_may_lead_nowhere(self):
        book = [("a", 9), ("ab", 1), ("b", 9), ("cd", 1), ("d", 1)]
        self.assertEqual(best_cut(book, "abcd", "heaviest"), (19, ["a", "b", "cd"]))
        greedy = [("ab", 1), ("abc", 100), ("cde", 1)]
        self.assertEqual(best_cut(greedy, "abcde", "heaviest"), (2, ["ab", "cde"]))
        self.assertEqual(best_cut(greedy, "abcde", "fewest"), (-2, ["ab", "cde"]))

    def test_weights_below_nought(self):
        book = [("a", -5), ("aa", -9), ("aaa", -20)]
        self.assertEqual(best_cut(book, "a", "heaviest"), (-5, ["a"]))
        self.assertEqual(best_cut(book, "aaa", "heaviest"), (-14, ["a", "aa"]))

    def test_weights_of_thirty_figures(self):
        book = [("a", BIG), ("aa", 1 - BIG), ("b", -BIG), ("bb", -BIG)]
        self.assertEqual(best_cut(book, "aa", "heaviest"), (2 * BIG, ["a", "a"]))
        self.assertEqual(best_cut(book, "bbb", "heaviest"), (-2 * BIG, ["b", "bb"]))
        self.assertEqual(best_cut(book, "a" * 2000, "heaviest"), (2000 * BIG, ["a"] * 2000))
        # Numbers that differ in the last figure only.
        near = [("a", BIG), ("ab", BIG - 1), ("b", 0)]
        self.assertEqual(best_cut(near, "ab", "heaviest"), (BIG, ["a", "b"]))

    def test_the_text_without_letters(self):
        for way in WAYS:
            self.assertEqual(best_cut(BOOK, "", way), (0, []))
            self.assertEqual(best_cut([], "", way), (0, []))

    def test_no_cut(self):
        for way in WAYS:
            for text in ["c", "aac", "ca", "aca"]:
                self.assertIsNone(best_cut(BOOK, text, way))
            self.assertIsNone(best_cut([], "a", way))
            self.assertIsNone(best_cut([("aaa", 1)], "aa", way))

    def test_two_thousand_letters(self):
        text = "a" * 2000
        self.assertEqual(best_cut(MANY, text, "fewest"), (-167, ["a" * 8] + ["a" * 12] * 166))
        self.assertEqual(best_cut(MANY, text, "heaviest"), (2000, ["a"] * 2000))
        for way in WAYS:
            self.assertIsNone(best_cut(MANY, "a" * 1999 + "b", way))
            self.assertIsNone(best_cut(MANY, "b" + "a" * 1999, way))

    def test_small_texts(self):
        for book in naive.small_books() + [BOOK, [("a", -1), ("ab", 0), ("b", 1), ("ba", 0)]]:
            for text in naive.small_texts(5) + ["c", "abc"]:
                for way in WAYS:
                    told = best_cut(book, text, way)
                    self.assertEqual(told, naive.naive_best(book, text, way), (book, text, way))

    def test_no_text(self):
        for way in WAYS:
            naive.check_no_text(self, lambda thing: best_cut(BOOK, thing, way))


class BestPaperTest(unittest.TestCase):
    def check(self, book, text, way):
        paper = best_paper(book, text, way)
        best = best_cut(book, text, way)
        if best is None:
            self.assertIsNone(paper)
            return
        worth, cut = best
        self.assertIsInstance(paper, list)
        self.assertIs(is_cut(book, text, cut), True)
        self.assertTrue(naive.naive_best_shows(book, text, way, worth, paper), (book, text, way, paper))
        self.assertIs(best_shows(book, text, way, worth, paper), True)
        self.assertIs(best_shows(book, text, way, worth + 1, paper), False)
        self.assertIs(best_shows(book, text, way, worth - 1, paper), False)

    def test_the_best_worth_is_shown(self):
        for book in naive.small_books() + [BOOK, [("a", -1), ("ab", 0), ("b", 1), ("ba", 0)]]:
            for text in naive.small_texts(5) + ["c", "abc"]:
                for way in WAYS:
                    self.check(book, text, way)

    def test_thirty_figures(self):
        book = [("a", BIG), ("aa", -BIG), ("ab", -BIG), ("bb", BIG)]
        for text in ["a", "ab", "abb", "aabb", "aaaabbbb"]:
            self.check(book, text, "heaviest")

    def test_the_text_without_letters(self):
        for way in WAYS:
            self.assertEqual(best_paper(BOOK, "", way), [0])
            self.assertEqual(best_paper([], "", way), [0])

    def test_no_cut(self):
        for way in WAYS:
            for text in ["c", "aac", "ca", "aca"]:
                self.assertIsNone(best_paper(BOOK, text, way))
            self.assertIsNone(best_paper([], "a", way))

    def test_two_thousand_letters(self):
        for way in WAYS:
            self.check(MANY, "a" * 2000, way)
            self.check(BOOK, "aab" * 666, way)
            self.check([("aaa", -1)], "a" * 1998, way)
            self.assertIsNone(best_paper(MANY, "a" * 1999 + "b", way))

    def test_no_text(self):
        for way in WAYS:
            naive.check_no_text(self, lambda thing: best_paper(BOOK, thing, way))


class BestShowsTest(unittest.TestCase):
    BOOK = [("ab", 4), ("abc", 1), ("c", -1), ("cd", 2)]

    def shows(self, paper, worth, text="abcd", way="heaviest"):
        return best_shows(self.BOOK, text, way, worth, paper)

    def test_ordinary(self):
        self.assertIs(self.shows([0, None, 4, 3, 6], 6), True)
        self.assertIs(self.shows([0, None, -1, -1, -2], -2, way="fewest"), True)
        self.assertIs(self.shows([0, None, -1, -2, -2], -2, way="fewest"), False)

    def test_the_two_ways_differ(self):
        self.assertIs(self.shows([0, None, 4, 3, 6], 6, way="fewest"), True)
        self.assertIs(self.shows([0, None, -1, -1, -2], -2, way="heaviest"), False)

    def test_another_length(self):
        for paper in [[], [0], [0, None, 4, 3], [0, None, 4, 6], [0, None, 4, 3, 6, 6], [0, None, 4, 3, 6, None]]:
            self.assertIs(self.shows(paper, 6), False, paper)
        self.assertIs(self.shows([], 0, ""), False)
        self.assertIs(self.shows([0, 0], 0, ""), False)

    def test_the_first_is_nought(self):
        for first in [None, -1, 1, BIG]:
            self.assertIs(self.shows([first, None, 4, 3, 6], 6), False, first)
        self.assertIs(self.shows([None, None, None, None, 6], 6), False)
        self.assertIs(self.shows([-9, None, 4, 3, 6], 6), False)

    def test_the_last_is_the_worth(self):
        for last in [None, 5, 7, -6, BIG]:
            self.assertIs(self.shows([0, None, 4, 3, last], 6), False, last)

    def test_a_greater_and_a_lesser_worth(self):
        for worth in [7, 8, BIG]:
            self.assertIs(self.shows([0, None, 4, 3, 6], worth), False)
            self.assertIs(self.shows([0, None, 4, 3, worth], worth), True)
        for worth in [5, 0, -6, -BIG]:
            self.assertIs(self.shows([0, None, 4, 3, 6], worth), False)
            self.assertIs(self.shows([0, None, 4, 3, worth], worth), False)
            # Less than the best worth is shown by no paper.
            self.assertIs(self.shows([0, None, worth - 2, 3, worth], worth), False)

    def test_none_where_words_lead(self):
        self.assertIs(self.shows([0, None, None, 3, 6], 6), False)
        self.assertIs(self.shows([0, None, 4, None, 6], 6), False)
        self.assertIs(self.shows([0, None, None, None, 6], 6), False)

    def test_one_number_below_or_above(self):
        self.assertIs(self.shows([0, None, 3, 3, 6], 6), False)
        self.assertIs(self.shows([0, None, 4, 2, 6], 6), False)
        self.assertIs(self.shows([0, None, 4, 4, 6], 6), True)
        self.assertIs(self.shows([0, None, 4, 99, 6], 6), True)
        self.assertIs(self.shows([0, None, 5, 99, 6], 6), False)
        self.assertIs(self.shows([0, None, 5, 4, 7], 7), True)

    def test_numbers_where_no_words_lead(self):
        self.assertIs(self.shows([0, 99, 4, 3, 6], 6), True)
        self.assertIs(self.shows([0, -BIG, 4, 3, 6], 6), True)

    def test_numbers_where_no_cut_leads_but_words_go_on(self):
        book = [("a", 1), ("ab", 1), ("b", 1), ("bc", 1), ("c", 1)]
        self.assertIs(best_shows([("ab", 1), ("b", 1)], "ab", "heaviest", 1, [0, 0, 1]), True)
        self.assertIs(best_shows([("ab", 1), ("b", 1)], "ab", "heaviest", 1, [0, 1, 1]), False)
        self.assertIs(best_shows(book, "abc", "heaviest", 3, [0, 1, 2, 3]), True)
        self.assertIs(best_shows(book, "abc", "heaviest", 3, [0, 2, 2, 3]), False)

    def test_a_text_without_a_cut(self):
        # No word leads to the end, so any worth is shown, and the told places need their numbers all the same.
        for worth in [0, 5, -5, BIG]:
            self.assertIs(self.shows([0, None, 4, worth], worth, "abx"), True)
            self.assertIs(self.shows([0, None, None, worth], worth, "abx"), False)
            self.assertIs(self.shows([0, worth], worth, "x"), True)
        self.assertIs(self.shows([0, None], 0, "x"), False)
        self.assertIs(self.shows([0, None, 4, None], 4, "abx"), False)

    def test_the_text_without_letters(self):
        for way in WAYS:
            self.assertIs(self.shows([0], 0, "", way), True)
            for wrong, worth in [([0], 1), ([1], 1), ([None], 0), ([1], 0), ([0], -1)]:
                self.assertIs(self.shows(wrong, worth, "", way), False)

    def test_all_small_papers(self):
        books = [[], [("a", 1)], [("a", 1), ("aa", 1)], [("a", 0), ("ab", -1), ("b", 2)], [("ab", 2), ("b", -2)]]
        numbers = [None, -2, -1, 0, 1, 2]
        for book, text, way in itertools.product(books, naive.small_texts(2), WAYS):
            for paper in itertools.product(numbers, repeat=len(text) + 1):
                for worth in numbers[1:]:
                    told = best_shows(book, text, way, worth, list(paper))
                    expected = naive.naive_best_shows(book, text, way, worth, paper)
                    self.assertIs(told, expected, (book, text, way, worth, paper))

    def test_no_cut_is_worth_more_than_what_is_shown(self):
        for text in ["ab", "abc", "abcd", "abab"]:
            for cut in naive.naive_cuts(self.BOOK, text):
                worth = weight_of(self.BOOK, text, cut)
                paper = best_paper(self.BOOK, text, "heaviest")
                self.assertGreaterEqual(paper[-1], worth)

    def test_what_is_no_list_of_whole_numbers_and_none(self):
        for paper in [(0, None, 4, 3, 6), [0, "", 4, 3, 6], [0, [], 4, 3, 6], [False, None, 4, 3, 6], "01436", None]:
            self.assertIs(self.shows(paper, 6), False, paper)
        for worth in [None, True, "6", [6]]:
            self.assertIs(self.shows([0, None, 4, 3, worth], worth), False, worth)
        self.assertIs(self.shows([0], False, ""), False)

    def test_two_thousand_letters(self):
        paper = list(range(2001))
        self.assertIs(best_shows(MANY, "a" * 2000, "heaviest", 2000, paper), True)
        self.assertIs(best_shows(MANY, "a" * 2000, "heaviest", 1999, paper[:-1] + [1999]), False)
        self.assertIs(best_shows(MANY, "a" * 2000, "heaviest", 2000, paper[:1000] + [None] + paper[1001:]), False)

    def test_no_text_ahead_of_all_else(self):
        for way in WAYS:
            naive.check_no_text(self, lambda thing: best_shows(BOOK, thing, way, 0, [0]))
            naive.check_no_text(self, lambda thing: best_shows(BOOK, thing, way, 0, []))


class KeepTest(unittest.TestCase):
    def test_what_is_handed_in_stays(self):
        book = copy.deepcopy(BOOK)
        paper = [0, 3, 6, 7]
        for text, way in itertools.product(["aab", "aac", ""], WAYS):
            best_cut(book, text, way)
            best_paper(book, text, way)
            best_shows(book, text, way, 7, paper)
        self.assertEqual(book, BOOK)
        self.assertEqual(paper, [0, 3, 6, 7])

    def test_told_lists_are_the_askers_own(self):
        for text, way in itertools.product(["aab", ""], WAYS):
            naive.check_own(self, lambda: best_cut(BOOK, text, way))
            naive.check_own(self, lambda: best_paper(BOOK, text, way))

    def test_a_changed_book_is_seen(self):
        book = [("a", 1)]
        self.assertEqual(best_cut(book, "aa", "heaviest"), (2, ["a", "a"]))
        book.append(("aa", 9))
        self.assertEqual(best_cut(book, "aa", "heaviest"), (9, ["aa"]))
        self.assertEqual(best_cut(book, "aa", "fewest"), (-1, ["aa"]))
        self.assertIs(best_shows(book, "aa", "heaviest", 2, [0, 1, 2]), False)


if __name__ == "__main__":
    unittest.main()
