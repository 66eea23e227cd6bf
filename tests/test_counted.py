"""Point 9, and what point 2 says of it: bookcuts.counted."""

import copy
import unittest

import naive
from bookcuts.counted import cut_by, cut_count, number_of
from bookcuts.errors import NoCut, NoPlace
from bookcuts.whether import first_cut

BOOK = [("a", 1), ("aa", 1), ("aab", 1), ("ab", 1), ("b", 1)]
MANY = [("a" * length, length) for length in range(1, 13)]


class CutCountTest(unittest.TestCase):
    def test_ordinary(self):
        self.assertEqual(cut_count(BOOK, "a"), 1)
        self.assertEqual(cut_count(BOOK, "aab"), 4)
        self.assertEqual(cut_count(BOOK, "c"), 0)
        self.assertEqual(cut_count(BOOK, "abc"), 0)

    def test_the_text_without_letters(self):
        self.assertEqual(cut_count(BOOK, ""), 1)
        self.assertEqual(cut_count([], ""), 1)
        self.assertEqual(cut_count([], "a"), 0)

    def test_very_many(self):
        self.assertEqual(cut_count([("a", 1), ("aa", 1), ("b", 1)], "aab" * 600), 2 ** 600)
        self.assertEqual(cut_count(MANY, "a" * 12), 2 ** 11)
        self.assertEqual(cut_count(MANY, "a" * 13), 2 ** 12 - 1)
        self.assertEqual(cut_count(MANY, "a" * 1999 + "b"), 0)

    def test_two_thousand_letters(self):
        low, high = 1, 1
        for step in range(1999):
            low, high = high, low + high
        self.assertEqual(cut_count([("a", 1), ("aa", 1)], "a" * 2000), high)

    def test_no_text(self):
        naive.check_no_text(self, lambda thing: cut_count(BOOK, thing))


class CutByTest(unittest.TestCase):
    def test_in_order(self):
        told = [cut_by(BOOK, "aab", number) for number in range(4)]
        self.assertEqual(told, [["a", "a", "b"], ["a", "ab"], ["aa", "b"], ["aab"]])

    def test_the_text_without_letters(self):
        self.assertEqual(cut_by(BOOK, "", 0), [])
        self.assertEqual(cut_by([], "", 0), [])

    def test_first_and_last_of_very_many(self):
        text = "a" * 2000
        count = cut_count(MANY, text)
        self.assertEqual(cut_by(MANY, text, 0), first_cut(MANY, text))
        self.assertEqual(cut_by(MANY, text, count - 1), ["a" * 12] * 166 + ["a" * 8])
        for number in [-1, count, count + 1, count + 10 ** 29, -count]:
            with self.assertRaises(NoPlace):
                cut_by(MANY, text, number)

    def test_no_number(self):
        for number in [-1, 4, 5, -4, 10 ** 29, -(10 ** 29), True, False, None, "", "0", b"0", [], [0], (0,), {}, object(), int]:
            with self.subTest(number=number):
                with self.assertRaises(NoPlace):
                    cut_by(BOOK, "aab", number)

    def test_no_number_of_the_text_without_letters(self):
        for number in [-1, 1, True, False, None]:
            with self.assertRaises(NoPlace):
                cut_by(BOOK, "", number)

    def test_no_number_where_there_is_no_cut(self):
        for number in [-1, 0, 1, False, None]:
            with self.assertRaises(NoPlace):
                cut_by(BOOK, "abc", number)

    def test_no_text_ahead_of_no_place(self):
        naive.check_no_text(self, lambda thing: cut_by(BOOK, thing, 0))
        naive.check_no_text(self, lambda thing: cut_by(BOOK, thing, None))


class NumberOfTest(unittest.TestCase):
    def test_ordinary(self):
        self.assertEqual(number_of(BOOK, "aab", ["a", "a", "b"]), 0)
        self.assertEqual(number_of(BOOK, "aab", ["aa", "b"]), 2)
        self.assertEqual(number_of(BOOK, "aab", ["aab"]), 3)
        self.assertEqual(number_of(BOOK, "", []), 0)
        self.assertEqual(number_of([], "", []), 0)

    def test_numbers_of_very_many(self):
        text = "aab" * 600
        book = [("a", 1), ("aa", 1), ("b", 1)]
        count = cut_count(book, text)
        for number in [0, 1, 2, 10 ** 29, count // 3, count - 2, count - 1]:
            cut = cut_by(book, text, number)
            self.assertEqual("".join(cut), text)
            self.assertEqual(number_of(book, text, cut), number)
        self.assertEqual(cut_by(book, text, 1), ["a", "a", "b"] * 599 + ["aa", "b"])

    def test_no_cut(self):
        wrong = [("aab",), ["aa"], ["aa", "b", "b"], ["b", "aa"], ["aab", ""], [["aab"]], ["AAB"], ["aa", b"b"]]
        for thing in naive.ANYTHING + wrong:
            with self.subTest(thing=thing):
                with self.assertRaises(NoCut):
                    number_of(BOOK, "aab", thing)

    def test_no_cut_of_the_text_without_letters(self):
        for thing in [None, (), "", [""], ["a"], {}]:
            with self.subTest(thing=thing):
                with self.assertRaises(NoCut):
                    number_of(BOOK, "", thing)

    def test_no_text_ahead_of_no_cut(self):
        naive.check_no_text(self, lambda thing: number_of(BOOK, thing, []))
        naive.check_no_text(self, lambda thing: number_of(BOOK, thing, None))


class SmallTextsTest(unittest.TestCase):
    def test_all_cuts_by_number(self):
        for book in naive.small_books():
            for text in naive.small_texts(5) + ["c", "abc", "acb", "bca"]:
                cuts = naive.naive_cuts(book, text)
                with self.subTest(book=book, text=text):
                    self.assertEqual(cut_count(book, text), len(cuts))
                    self.assertEqual([cut_by(book, text, number) for number in range(len(cuts))], cuts)
                    self.assertEqual([number_of(book, text, cut) for cut in cuts], list(range(len(cuts))))
                    with self.assertRaises(NoPlace):
                        cut_by(book, text, len(cuts))


class KeepTest(unittest.TestCase):
    def test_what_is_handed_in_stays(self):
        book = copy.deepcopy(BOOK)
        cut = ["aa", "b"]
        cut_count(book, "aab")
        cut_by(book, "aab", 1)
        number_of(book, "aab", cut)
        with self.assertRaises(NoCut):
            number_of(book, "aa", cut)
        self.assertEqual(book, BOOK)
        self.assertEqual(cut, ["aa", "b"])

    def test_a_told_list_is_the_askers_own(self):
        for text, number in [("aab", 2), ("", 0)]:
            told = cut_by(BOOK, text, number)
            before = list(told)
            told.append("x")
            again = cut_by(BOOK, text, number)
            self.assertEqual(again, before)
            self.assertIsNot(again, cut_by(BOOK, text, number))

    def test_a_changed_book_is_seen(self):
        book = [("a", 1)]
        self.assertEqual(cut_count(book, "aa"), 1)
        book.append(("aa", 1))
        self.assertEqual(cut_count(book, "aa"), 2)
        self.assertEqual(number_of(book, "aa", ["aa"]), 1)


if __name__ == "__main__":
    unittest.main()
