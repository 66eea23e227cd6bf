"""Point 12, and what point 2 says of it: bookcuts.always."""

import copy
import unittest

import naive
from bookcuts.always import all_places, all_words, some_words
from bookcuts.errors import NoCut

BOOK = [("a", 1), ("ab", 1), ("abc", 1), ("b", 1), ("c", 1), ("d", 1), ("xy", 1)]
MANY = [("a" * length, length) for length in range(1, 13)]
ASKED = [some_words, all_words, all_places]


class OrdinaryTest(unittest.TestCase):
    def test_some_words(self):
        told = some_words(BOOK, "abcd")
        self.assertEqual(told, [(0, "a"), (0, "ab"), (0, "abc"), (1, "b"), (2, "c"), (3, "d")])

    def test_all_words(self):
        self.assertEqual(all_words(BOOK, "abcd"), [(3, "d")])
        self.assertEqual(all_words(BOOK, "dxyd"), [(0, "d"), (1, "xy"), (3, "d")])
        self.assertEqual(all_words(BOOK, "ab"), [])

    def test_all_places(self):
        self.assertEqual(all_places(BOOK, "abcd"), [0, 3, 4])
        self.assertEqual(all_places(BOOK, "dxyd"), [0, 1, 3, 4])
        self.assertEqual(all_places(BOOK, "ab"), [0, 2])

    def test_tuples_in_lists(self):
        for ask in [some_words, all_words]:
            told = ask(BOOK, "dxyd")
            self.assertIsInstance(told, list)
            self.assertTrue(all(isinstance(thing, tuple) for thing in told))
        self.assertIsInstance(all_places(BOOK, "d"), list)

    def test_words_that_lead_nowhere(self):
        book = [("a", 1), ("ab", 1), ("bcd", 1)]
        # ab is at 0, but behind it nothing goes on.
        self.assertEqual(some_words(book, "abcd"), [(0, "a"), (1, "bcd")])
        self.assertEqual(all_words(book, "abcd"), [(0, "a"), (1, "bcd")])
        self.assertEqual(all_places(book, "abcd"), [0, 1, 4])

    def test_words_that_no_cut_leads_to(self):
        book = [("abc", 1), ("b", 1), ("bc", 1), ("c", 1)]
        self.assertEqual(some_words(book, "abc"), [(0, "abc")])
        self.assertEqual(all_words(book, "abc"), [(0, "abc")])
        self.assertEqual(all_places(book, "abc"), [0, 3])

    def test_a_place_in_every_cut_with_several_words_on_both_sides(self):
        book = [("a", 1), ("aa", 1), ("b", 1), ("bb", 1)]
        self.assertEqual(all_words(book, "aabb"), [])
        self.assertEqual(all_places(book, "aabb"), [0, 2, 4])
        self.assertEqual(all_words(book, "abb"), [(0, "a")])

    def test_the_text_without_letters(self):
        for book in [BOOK, []]:
            self.assertEqual(some_words(book, ""), [])
            self.assertEqual(all_words(book, ""), [])
            self.assertEqual(all_places(book, ""), [0])


class ManyTest(unittest.TestCase):
    def test_far_more_cuts_than_can_be_gone_through(self):
        text = "a" * 2000
        expected = [(place, "a" * many) for place in range(2000) for many in range(1, 13) if place + many <= 2000]
        self.assertEqual(some_words(MANY, text), expected)
        self.assertEqual(all_words(MANY, text), [])
        self.assertEqual(all_places(MANY, text), [0, 2000])

    def test_one_place_amid_them(self):
        book = MANY + [("b", 1)]
        text = "a" * 1000 + "b" + "a" * 999
        self.assertEqual(all_words(book, text), [(1000, "b")])
        self.assertEqual(all_places(book, text), [0, 1000, 1001, 2000])

    def test_one_cut_of_two_thousand_letters(self):
        text = "a" * 2000
        self.assertEqual(some_words([("a", 1)], text), [(place, "a") for place in range(2000)])
        self.assertEqual(all_words([("a", 1)], text), [(place, "a") for place in range(2000)])
        self.assertEqual(all_places([("a", 1)], text), list(range(2001)))
        self.assertEqual(all_places([("aa", 1)], text), list(range(0, 2001, 2)))

    def test_no_cut_of_two_thousand_letters(self):
        for ask in ASKED:
            with self.assertRaises(NoCut):
                ask(MANY, "a" * 1999 + "b")


class SmallTextsTest(unittest.TestCase):
    def check(self, book, text, cuts):
        placed = [naive.naive_placed(cut) for cut in cuts]
        some = sorted({thing for row in placed for thing in row})
        self.assertEqual(some_words(book, text), some)
        self.assertEqual(all_words(book, text), [thing for thing in some if all(thing in row for row in placed)])
        ends = [{0} | {place + len(word) for place, word in row} for row in placed]
        places = [place for place in range(len(text) + 1) if all(place in row for row in ends)]
        self.assertEqual(all_places(book, text), places)

    def test_all_cuts(self):
        for book in naive.small_books() + [BOOK]:
            for text in naive.small_texts(6) + ["c", "abc", "acb", "bca", "abcab", "xyab"]:
                cuts = naive.naive_cuts(book, text)
                with self.subTest(book=book, text=text):
                    if cuts:
                        self.check(book, text, cuts)
                    else:
                        for ask in ASKED:
                            with self.assertRaises(NoCut):
                                ask(book, text)


class RefusalTest(unittest.TestCase):
    def test_no_cut(self):
        for ask in ASKED:
            for text in ["x", "abx", "xab", "y", "abq"]:
                with self.assertRaises(NoCut):
                    ask(BOOK, text)
            with self.assertRaises(NoCut):
                ask([], "a")

    def test_no_text_ahead_of_no_cut(self):
        for ask in ASKED:
            naive.check_no_text(self, lambda thing: ask(BOOK, thing))
            naive.check_no_text(self, lambda thing: ask([], thing))


class KeepTest(unittest.TestCase):
    def test_what_is_handed_in_stays(self):
        book = copy.deepcopy(BOOK)
        for ask in ASKED:
            ask(book, "abcd")
            ask(book, "")
            with self.assertRaises(NoCut):
                ask(book, "abx")
        self.assertEqual(book, BOOK)

    def test_told_lists_are_the_askers_own(self):
        for ask in ASKED:
            for text in ["abcd", "ab", ""]:
                naive.check_own(self, lambda: ask(BOOK, text))

    def test_a_changed_book_is_seen(self):
        book = [("a", 1)]
        self.assertEqual(all_places(book, "aa"), [0, 1, 2])
        book.append(("aa", 1))
        self.assertEqual(all_places(book, "aa"), [0, 2])
        self.assertEqual(all_words(book, "aa"), [])
        self.assertEqual(some_words(book, "aa"), [(0, "a"), (0, "aa"), (1, "a")])


if __name__ == "__main__":
    unittest.main()
