"""Points 6, 7 and 8, and what point 2 says of them: bookcuts.whether."""

import copy
import itertools
import unittest

import naive
from bookcuts.books import is_cut
from bookcuts.whether import barring_stretch, can_cut, first_cut, is_bar, least_bar, lies_in

BOOK = [("a", 1), ("ab", 1), ("bc", 1), ("cd", 1)]

# Every row of as is a word, so cuts are far more than can be gone through.
MANY = [("a" * length, length) for length in range(1, 13)]


class CanCutTest(unittest.TestCase):
    def test_ordinary(self):
        self.assertIs(can_cut(BOOK, "abc"), True)
        self.assertIs(can_cut(BOOK, "abcd"), True)
        self.assertIs(can_cut(BOOK, "abd"), False)
        self.assertIs(can_cut(BOOK, "b"), False)

    def test_the_text_without_letters(self):
        self.assertIs(can_cut(BOOK, ""), True)
        self.assertIs(can_cut([], ""), True)

    def test_the_book_without_words(self):
        self.assertIs(can_cut([], "a"), False)

    def test_two_thousand_letters(self):
        self.assertIs(can_cut(MANY, "a" * 2000), True)
        self.assertIs(can_cut(MANY, "a" * 1999 + "b"), False)
        self.assertIs(can_cut(MANY, "b" + "a" * 1999), False)
        self.assertIs(can_cut([("aaa", 1)], "a" * 1998), True)
        self.assertIs(can_cut([("aaa", 1)], "a" * 2000), False)

    def test_three_hundred_words(self):
        book = sorted([(word, 1) for word in naive.small_texts(8)[1:301]])
        self.assertIs(can_cut(book, "ab" * 1000), True)
        self.assertIs(can_cut(book, "ab" * 999 + "ac"), False)

    def test_no_text(self):
        naive.check_no_text(self, lambda thing: can_cut(BOOK, thing))


class FirstCutTest(unittest.TestCase):
    def test_ordinary(self):
        self.assertEqual(first_cut(BOOK, "abc"), ["a", "bc"])
        self.assertEqual(first_cut(BOOK, "abcd"), ["ab", "cd"])
        self.assertIsNone(first_cut(BOOK, "abd"))

    def test_the_shorter_word_goes_first_though_lighter_or_more(self):
        book = [("a", -9), ("aab", 5), ("ab", 9), ("b", -9)]
        self.assertEqual(first_cut(book, "aab"), ["a", "a", "b"])

    def test_the_text_without_letters(self):
        self.assertEqual(first_cut(BOOK, ""), [])
        self.assertEqual(first_cut([], ""), [])

    def test_two_thousand_letters(self):
        self.assertEqual(first_cut(MANY, "a" * 2000), ["a"] * 2000)
        self.assertIsNone(first_cut(MANY, "a" * 1999 + "b"))
        self.assertEqual(first_cut([("aa", 1), ("aaa", 1)], "a" * 1999), ["aa"] * 998 + ["aaa"])

    def test_no_text(self):
        naive.check_no_text(self, lambda thing: first_cut(BOOK, thing))


class IsBarTest(unittest.TestCase):
    def test_ordinary(self):
        self.assertIs(is_bar(BOOK, "abd", [0, 1, 2]), True)
        self.assertIs(is_bar(BOOK, "bad", [0]), True)
        self.assertIs(is_bar(BOOK, "bad", [0, 1, 2]), True)
        self.assertIs(is_bar(BOOK, "bad", [0, 2]), True)
        self.assertIs(is_bar(BOOK, "bad", [0, 1]), False)
        self.assertIs(is_bar(BOOK, "abd", [0, 1]), False)
        self.assertIs(is_bar(BOOK, "abd", [0, 2]), False)
        self.assertIs(is_bar(BOOK, "abd", [0]), False)

    def test_zero_is_in_it_and_the_end_is_not(self):
        self.assertIs(is_bar(BOOK, "bad", []), False)
        self.assertIs(is_bar(BOOK, "bad", [2]), False)
        self.assertIs(is_bar(BOOK, "bad", [0, 3]), False)
        self.assertIs(is_bar(BOOK, "bad", [0, 2, 3]), False)

    def test_within_the_text(self):
        self.assertIs(is_bar(BOOK, "bad", [-1, 0]), False)
        self.assertIs(is_bar(BOOK, "bad", [0, 4]), False)
        self.assertIs(is_bar(BOOK, "bad", [0, 10 ** 29]), False)

    def test_rising(self):
        self.assertIs(is_bar(BOOK, "bad", [0, 0]), False)
        self.assertIs(is_bar(BOOK, "bad", [2, 0]), False)
        self.assertIs(is_bar(BOOK, "abd", [0, 2, 1]), False)

    def test_the_text_without_letters_has_none(self):
        self.assertIs(is_bar(BOOK, "", []), False)
        self.assertIs(is_bar(BOOK, "", [0]), False)

    def test_of_anything(self):
        for thing in naive.ANYTHING:
            with self.subTest(thing=thing):
                # The one bar among them is [0].
                self.assertIs(is_bar(BOOK, "bad", thing), thing == [0] and thing[0] is not False)
                self.assertIs(is_bar(BOOK, "bad", [0, thing]), False)

    def test_truths_are_no_places(self):
        self.assertIs(is_bar(BOOK, "bad", [False]), False)
        self.assertIs(is_bar(BOOK, "abd", [0, True, 2]), False)
        self.assertIs(is_bar(BOOK, "abd", [False, 1, 2]), False)

    def test_lists_only(self):
        for thing in [(0, 1, 2), {0, 1, 2}, {0: 1, 1: 2, 2: 3}, range(3), iter([0, 1, 2]), "012", bytes([0, 1, 2])]:
            with self.subTest(thing=thing):
                self.assertIs(is_bar(BOOK, "abd", thing), False)

    def test_a_list_that_holds_itself(self):
        ring = [0]
        ring.append(ring)
        self.assertIs(is_bar(BOOK, "bad", ring), False)

    def test_two_thousand_places(self):
        self.assertIs(is_bar(MANY, "a" * 1999 + "b", list(range(2000))), True)
        self.assertIs(is_bar(MANY, "a" * 1999 + "b", list(range(1999))), False)
        self.assertIs(is_bar(MANY, "a" * 2000, list(range(2000))), False)

    def test_no_text_ahead_of_all_else(self):
        naive.check_no_text(self, lambda thing: is_bar(BOOK, thing, [0]))
        naive.check_no_text(self, lambda thing: is_bar(BOOK, thing, None))

    def test_all_lists_of_small_texts(self):
        for book in naive.small_books():
            for text in naive.small_texts(3):
                for many in range(len(text) + 2):
                    for places in itertools.combinations(range(len(text) + 1), many):
                        told = is_bar(book, text, list(places))
                        self.assertIs(told, naive.naive_is_bar(book, text, places), (book, text, places))


class LeastBarTest(unittest.TestCase):
    def test_where_there_is_none(self):
        self.assertEqual(least_bar(BOOK, "abd"), [0, 1, 2])
        self.assertEqual(least_bar(BOOK, "bad"), [0])
        self.assertEqual(least_bar(BOOK, "abcb"), [0, 1, 2, 3])
        self.assertEqual(least_bar([], "a"), [0])

    def test_where_there_is_a_cut(self):
        self.assertIsNone(least_bar(BOOK, "abc"))
        self.assertIsNone(least_bar(BOOK, ""))
        self.assertIsNone(least_bar([], ""))

    def test_two_thousand_letters(self):
        self.assertEqual(least_bar(MANY, "a" * 1999 + "b"), list(range(2000)))
        self.assertIsNone(least_bar(MANY, "a" * 2000))
        self.assertEqual(least_bar([("aaa", 1)], "a" * 2000), list(range(0, 2000, 3)))

    def test_no_text(self):
        naive.check_no_text(self, lambda thing: least_bar(BOOK, thing))


class SmallTextsTest(unittest.TestCase):
    def test_a_cut_or_a_bar(self):
        for book in naive.small_books():
            for text in naive.small_texts(5) + ["c", "abc", "acb", "bca"]:
                with self.subTest(book=book, text=text):
                    cuts = naive.naive_cuts(book, text)
                    self.assertIs(can_cut(book, text), bool(cuts))
                    self.assertEqual(first_cut(book, text), cuts[0] if cuts else None)
                    bar = least_bar(book, text)
                    self.assertEqual(bar, naive.naive_least_bar(book, text))
                    self.assertIs(is_bar(book, text, bar), not cuts)
                    self.assertIs(is_cut(book, text, first_cut(book, text)), bool(cuts))


class LiesInTest(unittest.TestCase):
    def test_the_piece_without_letters(self):
        self.assertIs(lies_in([], ""), True)
        self.assertIs(lies_in(BOOK, ""), True)

    def test_the_book_without_words(self):
        self.assertIs(lies_in([], "a"), False)

    def test_within_one_word(self):
        book = [("abcde", 1)]
        for piece in ["a", "c", "e", "bcd", "abc", "cde", "abcde"]:
            self.assertIs(lies_in(book, piece), True, piece)
        for piece in ["ac", "ba", "f", "abcdf", "eb", "da"]:
            self.assertIs(lies_in(book, piece), False, piece)

    def test_over_two_words(self):
        book = [("abcde", 1), ("xyz", 1)]
        for piece in ["ea", "dea", "zabc", "ex", "zx", "yzxy", "cdexyz", "abcdeabcde"]:
            self.assertIs(lies_in(book, piece), True, piece)
        for piece in ["dx", "ya", "ey", "zb", "dexz"]:
            self.assertIs(lies_in(book, piece), False, piece)

    def test_over_several_words(self):
        book = [("abc", 1), ("xyz", 1)]
        for piece in ["cxyza", "bcabcxyzxyzx", "zabcabcabcab", "abcxyz"]:
            self.assertIs(lies_in(book, piece), True, piece)
        for piece in ["cxya", "bcabxyz", "zabcacab", "cxyzaz"]:
            self.assertIs(lies_in(book, piece), False, piece)

    def test_a_stretch_within_a_word_is_no_ending(self):
        self.assertIs(lies_in([("abc", 1), ("d", 1)], "bd"), False)
        self.assertIs(lies_in([("abc", 1), ("d", 1)], "dbc"), False)

    def test_two_thousand_letters(self):
        self.assertIs(lies_in(MANY, "a" * 2000), True)
        self.assertIs(lies_in(MANY, "a" * 1000 + "b" + "a" * 999), False)
        self.assertIs(lies_in([("abc", 1)], "c" + "abc" * 666 + "a"), True)
        self.assertIs(lies_in([("abc", 1)], "c" + "abc" * 666 + "b"), False)

    def test_all_small_pieces(self):
        for book in naive.small_books():
            for piece in naive.small_texts(5):
                self.assertIs(lies_in(book, piece), naive.naive_lies_in(book, piece), (book, piece))

    def test_no_text(self):
        naive.check_no_text(self, lambda thing: lies_in(BOOK, thing))


class BarringStretchTest(unittest.TestCase):
    def test_none(self):
        self.assertIsNone(barring_stretch(BOOK, ""))
        self.assertIsNone(barring_stretch([], ""))
        self.assertIsNone(barring_stretch(BOOK, "abcd"))

    def test_none_though_there_is_no_cut(self):
        self.assertIsNone(barring_stretch([("abc", 1)], "bcab"))
        self.assertIs(can_cut([("abc", 1)], "bcab"), False)

    def test_one_letter(self):
        self.assertEqual(barring_stretch(BOOK, "abxcd"), (2, 3))
        self.assertEqual(barring_stretch([], "ab"), (0, 1))
        self.assertEqual(barring_stretch(BOOK, "x"), (0, 1))

    def test_the_shortest(self):
        book = [("abcd", 1)]
        self.assertEqual(barring_stretch(book, "cdabcdaabx"), (9, 10))
        self.assertEqual(barring_stretch(book, "cdabcdaab"), (6, 8))

    def test_the_least_start_of_several(self):
        book = [("abcd", 1)]
        self.assertEqual(barring_stretch(book, "abcdxabcy"), (4, 5))
        self.assertEqual(barring_stretch(book, "abddcba"), (1, 3))
        self.assertEqual(barring_stretch([("ab", 1)], "abbaab"), (1, 3))

    def test_a_later_one_that_is_shorter(self):
        book = [("aaa", 1), ("b", 1)]
        self.assertEqual(barring_stretch(book, "bab"), (0, 3))
        self.assertEqual(barring_stretch(book, "baabc"), (4, 5))
        self.assertEqual(barring_stretch(book, "baabab"), (3, 6))

    def test_two_thousand_letters(self):
        self.assertIsNone(barring_stretch(MANY, "a" * 2000))
        self.assertEqual(barring_stretch(MANY, "a" * 1999 + "b"), (1999, 2000))
        self.assertEqual(barring_stretch([("aa", 1), ("b", 1)], "b" + "a" * 1997 + "b"), (0, 1999))

    def test_all_small_texts(self):
        for book in naive.small_books():
            for text in naive.small_texts(5):
                told = barring_stretch(book, text)
                self.assertEqual(told, naive.naive_barring_stretch(book, text), (book, text))
                self.assertIsInstance(told, (tuple, type(None)))
                if told is not None:
                    self.assertIs(can_cut(book, text), False)

    def test_no_text(self):
        naive.check_no_text(self, lambda thing: barring_stretch(BOOK, thing))


class KeepTest(unittest.TestCase):
    def test_what_is_handed_in_stays(self):
        book = copy.deepcopy(BOOK)
        places = [0, 1, 2]
        for text in ["abcd", "abd", ""]:
            can_cut(book, text)
            first_cut(book, text)
            is_bar(book, text, places)
            least_bar(book, text)
            lies_in(book, text)
            barring_stretch(book, text)
        self.assertEqual(book, BOOK)
        self.assertEqual(places, [0, 1, 2])

    def test_a_told_list_is_the_askers_own(self):
        for ask, text in [(first_cut, "abc"), (first_cut, ""), (least_bar, "abd")]:
            told = ask(BOOK, text)
            before = list(told)
            told.append("x")
            again = ask(BOOK, text)
            self.assertEqual(again, before)
            self.assertIsNot(again, ask(BOOK, text))

    def test_a_changed_book_is_seen(self):
        book = [("a", 1)]
        self.assertIs(can_cut(book, "ab"), False)
        self.assertEqual(barring_stretch(book, "ab"), (1, 2))
        book.append(("b", 1))
        self.assertIs(can_cut(book, "ab"), True)
        self.assertIsNone(barring_stretch(book, "ab"))


if __name__ == "__main__":
    unittest.main()
