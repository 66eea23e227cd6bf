"""Points 4 and 5, and what point 2 says of them: bookcuts.books."""

import copy
import unittest

import naive
from bookcuts.books import is_book, is_cut, weight_of, words_at
from bookcuts.errors import NoCut, NoPlace

BOOK = [("a", 2), ("ab", -3), ("abc", 0), ("b", 7), ("c", 10 ** 29), ("cab", 1)]


class IsBookTest(unittest.TestCase):
    def test_books(self):
        self.assertIs(is_book([]), True)
        self.assertIs(is_book(BOOK), True)
        self.assertIs(is_book([("z", -5)]), True)
        self.assertIs(is_book([("a", 1), ("aa", 1), ("b", 1)]), True)
        self.assertIs(is_book([("az", 0)]), True)
        self.assertIs(is_book([("a", -(10 ** 29))]), True)

    def test_three_hundred_words(self):
        words = naive.small_texts(8)[1:301]
        self.assertIs(is_book([(word, 1) for word in sorted(words)]), True)

    def test_lengths_of_words(self):
        self.assertIs(is_book([("", 1)]), False)
        self.assertIs(is_book([("q", 1)]), True)
        self.assertIs(is_book([("abcdefghijkl", 1)]), True)
        self.assertIs(is_book([("abcdefghijklm", 1)]), False)
        self.assertIs(is_book([("b", 1), ("z" * 13, 1)]), False)

    def test_other_kinds(self):
        for thing in naive.ANYTHING:
            if thing != [] and thing != [("a", 1)]:
                with self.subTest(thing=thing):
                    self.assertIs(is_book(thing), False)

    def test_the_whole_is_a_list(self):
        for thing in [(), (("a", 1),), {"a": 1}, {("a", 1)}, "a", iter([("a", 1)]), {("a", 1): 0}]:
            with self.subTest(thing=thing):
                self.assertIs(is_book(thing), False)

    def test_entries_are_tuples_of_two(self):
        for entry in [(), ("a",), ("a", 1, 1), ["a", 1], "a", "ab", 1, None, {"a": 1, "b": 2}, {"a", "b"}, (("a", 1),)]:
            with self.subTest(entry=entry):
                self.assertIs(is_book([entry]), False)
                self.assertIs(is_book([("a", 1), entry]), False)

    def test_words_are_texts_of_small_letters(self):
        for word in naive.NO_TEXTS:
            with self.subTest(word=word):
                self.assertIs(is_book([(word, 1)]), False)

    def test_weights_are_whole_numbers(self):
        for weight in [True, False, None, "1", "", b"1", [1], (1,), {}, object()]:
            with self.subTest(weight=weight):
                self.assertIs(is_book([("a", weight)]), False)
                self.assertIs(is_book([("a", 1), ("b", weight)]), False)

    def test_words_rise(self):
        self.assertIs(is_book([("a", 1), ("a", 1)]), False)
        self.assertIs(is_book([("a", 1), ("a", 2)]), False)
        self.assertIs(is_book([("b", 1), ("a", 2)]), False)
        self.assertIs(is_book([("aa", 1), ("a", 2)]), False)
        self.assertIs(is_book([("a", 1), ("b", 1), ("aa", 1)]), False)
        self.assertIs(is_book([("b", 1), ("c", 1), ("a", 1)]), False)

    def test_a_list_that_holds_itself(self):
        ring = []
        ring.append(ring)
        self.assertIs(is_book(ring), False)
        self.assertIs(is_book([("a", ring)]), False)
        self.assertIs(is_book([(ring, 1)]), False)


class WordsAtTest(unittest.TestCase):
    def test_shorter_ones_first(self):
        self.assertEqual(words_at(BOOK, "abcab", 0), ["a", "ab", "abc"])
        self.assertEqual(words_at(BOOK, "abcab", 2), ["c", "cab"])
        self.assertEqual(words_at(BOOK, "abcab", 3), ["a", "ab"])
        self.assertEqual(words_at(BOOK, "abcab", 4), ["b"])

    def test_at_the_end(self):
        self.assertEqual(words_at(BOOK, "abcab", 5), [])
        self.assertEqual(words_at(BOOK, "", 0), [])

    def test_the_longest_words(self):
        book = [("a" * 11, 1), ("a" * 12, 1)]
        self.assertEqual(words_at(book, "a" * 12, 0), ["a" * 11, "a" * 12])
        self.assertEqual(words_at(book, "a" * 12, 1), ["a" * 11])
        self.assertEqual(words_at(book, "a" * 12, 2), [])

    def test_no_words(self):
        self.assertEqual(words_at([], "abc", 0), [])
        self.assertEqual(words_at(BOOK, "xyz", 1), [])

    def test_all_small_ones(self):
        for book in naive.small_books():
            for text in naive.small_texts(4):
                for place in range(len(text) + 1):
                    told = words_at(book, text, place)
                    self.assertEqual(told, naive.naive_words_at(book, text, place), (book, text, place))

    def test_no_place(self):
        for place in [-1, 6, 7, -5, -6, 10 ** 29, -(10 ** 29), True, False, None, "", "0", b"", [], [0], (0,), {}, object(), int]:
            with self.subTest(place=place):
                with self.assertRaises(NoPlace):
                    words_at(BOOK, "abcab", place)

    def test_no_place_of_the_text_without_letters(self):
        for place in [-1, 1, True, False]:
            with self.assertRaises(NoPlace):
                words_at(BOOK, "", place)

    def test_no_text_ahead_of_no_place(self):
        naive.check_no_text(self, lambda thing: words_at(BOOK, thing, 0))
        naive.check_no_text(self, lambda thing: words_at(BOOK, thing, -1))
        naive.check_no_text(self, lambda thing: words_at(BOOK, thing, None))


class IsCutTest(unittest.TestCase):
    def test_cuts(self):
        self.assertIs(is_cut(BOOK, "abcab", ["abc", "ab"]), True)
        self.assertIs(is_cut(BOOK, "abcab", ["a", "b", "cab"]), True)
        self.assertIs(is_cut(BOOK, "c", ["c"]), True)

    def test_no_cuts(self):
        self.assertIs(is_cut(BOOK, "abcab", ["abca", "b"]), False)
        self.assertIs(is_cut(BOOK, "abcab", ["abc"]), False)
        self.assertIs(is_cut(BOOK, "abcab", ["abc", "ab", "a"]), False)
        self.assertIs(is_cut(BOOK, "abcab", ["ab", "abc"]), False)
        self.assertIs(is_cut(BOOK, "abcab", ["abc", "", "ab"]), False)
        self.assertIs(is_cut(BOOK, "abcab", []), False)
        self.assertIs(is_cut([], "abcab", ["abcab"]), False)

    def test_the_text_without_letters(self):
        self.assertIs(is_cut(BOOK, "", []), True)
        self.assertIs(is_cut([], "", []), True)
        self.assertIs(is_cut(BOOK, "", [""]), False)
        self.assertIs(is_cut(BOOK, "", ["a"]), False)
        self.assertIs(is_cut(BOOK, "", ()), False)
        self.assertIs(is_cut(BOOK, "", ""), False)
        self.assertIs(is_cut(BOOK, "", None), False)

    def test_of_anything(self):
        for thing in naive.ANYTHING:
            with self.subTest(thing=thing):
                self.assertIs(is_cut(BOOK, "ab", thing), False)
                self.assertIs(is_cut(BOOK, "ab", ["ab", thing]), False)
                self.assertIs(is_cut(BOOK, "ab", [thing, "ab"]), False)

    def test_other_kinds_of_rows(self):
        for thing in [("a", "b"), {"ab": 1}, {"ab"}, "ab", iter(["ab"]), [["a", "b"]], [("ab", -3)], [b"ab"]]:
            with self.subTest(thing=thing):
                self.assertIs(is_cut(BOOK, "ab", thing), False)

    def test_a_list_that_holds_itself(self):
        ring = ["ab"]
        ring.append(ring)
        self.assertIs(is_cut(BOOK, "ab", ring), False)

    def test_no_text_ahead_of_all_else(self):
        naive.check_no_text(self, lambda thing: is_cut(BOOK, thing, []))
        naive.check_no_text(self, lambda thing: is_cut(BOOK, thing, None))
        naive.check_no_text(self, lambda thing: is_cut(BOOK, thing, thing))


class WeightOfTest(unittest.TestCase):
    def test_weights(self):
        self.assertEqual(weight_of(BOOK, "abcab", ["abc", "ab"]), -3)
        self.assertEqual(weight_of(BOOK, "abcab", ["a", "b", "cab"]), 10)
        self.assertEqual(weight_of(BOOK, "cc", ["c", "c"]), 2 * 10 ** 29)
        self.assertEqual(weight_of(BOOK, "ababab", ["ab", "ab", "ab"]), -9)

    def test_the_text_without_letters(self):
        self.assertEqual(weight_of(BOOK, "", []), 0)
        self.assertEqual(weight_of([], "", []), 0)

    def test_two_thousand_words(self):
        self.assertEqual(weight_of(BOOK, "ab" * 1000, ["a", "b"] * 1000), 9000)

    def test_no_cut(self):
        for thing in naive.ANYTHING + [["abc"], ["ab", "a", "b"], ["b", "a"], ("ab",), ["ab", ""], ["A", "b"], [["a", "b"]]]:
            with self.subTest(thing=thing):
                with self.assertRaises(NoCut):
                    weight_of(BOOK, "ab", thing)

    def test_no_cut_of_the_text_without_letters(self):
        for thing in [None, (), "", [""], ["a"], {}]:
            with self.subTest(thing=thing):
                with self.assertRaises(NoCut):
                    weight_of(BOOK, "", thing)

    def test_no_text_ahead_of_no_cut(self):
        naive.check_no_text(self, lambda thing: weight_of(BOOK, thing, []))
        naive.check_no_text(self, lambda thing: weight_of(BOOK, thing, None))


class CutsOfSmallTextsTest(unittest.TestCase):
    def test_rows_of_words(self):
        book = [("a", 1), ("ab", 5), ("b", -2)]
        weights = dict(book)
        rows = [row.split("-") for row in naive.small_texts(5, "ab-")]
        for text in naive.small_texts(4):
            cuts = naive.naive_cuts(book, text)
            for row in rows:
                if row in cuts:
                    self.assertIs(is_cut(book, text, row), True)
                    self.assertEqual(weight_of(book, text, row), sum(weights[word] for word in row))
                else:
                    self.assertIs(is_cut(book, text, row), False)


class KeepTest(unittest.TestCase):
    def test_what_is_handed_in_stays(self):
        book = copy.deepcopy(BOOK)
        cut = ["abc", "ab"]
        self.assertTrue(is_book(book))
        words_at(book, "abcab", 0)
        is_cut(book, "abcab", cut)
        weight_of(book, "abcab", cut)
        with self.assertRaises(NoCut):
            weight_of(book, "abca", cut)
        self.assertEqual(book, BOOK)
        self.assertEqual(cut, ["abc", "ab"])

    def test_a_told_list_is_the_askers_own(self):
        told = words_at(BOOK, "abcab", 0)
        told.append("x")
        again = words_at(BOOK, "abcab", 0)
        self.assertEqual(again, ["a", "ab", "abc"])
        self.assertIsNot(again, words_at(BOOK, "abcab", 0))

    def test_a_changed_book_is_seen(self):
        book = [("a", 1)]
        self.assertEqual(words_at(book, "ab", 0), ["a"])
        book.append(("ab", 2))
        self.assertEqual(words_at(book, "ab", 0), ["a", "ab"])
        self.assertEqual(weight_of(book, "ab", ["ab"]), 2)
        book[1] = ("ab", 9)
        self.assertEqual(weight_of(book, "ab", ["ab"]), 9)


if __name__ == "__main__":
    unittest.main()
