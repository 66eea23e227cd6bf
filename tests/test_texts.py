"""Point 20, and what point 2 says of it: bookcuts.texts."""

import copy
import random
import unittest

import naive
from bookcuts.books import is_book
from bookcuts.errors import CutError, NoWriting
from bookcuts.texts import read_book, show_book

BIG = 10 ** 30 - 1

WRITTEN = [
    ([], "-"), ([("a", 1)], "a=1"), ([("a", 0)], "a=0"), ([("a", -1)], "a=-1"), ([("a", 10)], "a=10"),
    ([("a", -10)], "a=-10"), ([("a", 1), ("ab", -5), ("b", 0)], "a=1 ab=-5 b=0"),
    ([("a", BIG), ("z", -BIG)], "a=" + "9" * 30 + " z=-" + "9" * 30), ([("a", 10 ** 29)], "a=1" + "0" * 29),
    ([("abcdefghijkl", 7)], "abcdefghijkl=7"), ([("zzzzzzzzzzzz", 123456789)], "zzzzzzzzzzzz=123456789"),
]

NO_WRITINGS = [
    # Blanks: two, at an end, beside the =, and other signs between.
    "", " ", "  ", "a=1  b=2", " a=1", "a=1 ", "a=1 b=2 ", "a =1", "a= 1", "a = 1", "a=1\tb=2", "a=1\nb=2", "a=1,b=2",
    "a=1\n", "\na=1", "a=1\t", "\ta=1", "a=1\r", "a=1b=2", "a=1;b=2", "a=1, b=2",
    # Weights.
    "a=", "a=+1", "a=01", "a=00", "a=-0", "a=-01", "a=+0", "a=--1", "a=-", "a=1-", "a=1.0", "a=1.5", "a=1e5", "a=1_0",
    "a=0x1", "a=b", "a=1a", "a=True", "a=None", "a=- 1", "a=1=2", "a==1", "a=1=", "a=-00", "a=000",
    # Words.
    "a", "=1", "=", "1=a", "A=1", "aB=1", "a1=1", "abcdefghijklm=1", "a-b=1", "-=1", "_=1", "`=1", "{=1", "a,=1", "1=1",
    # No rise.
    "b=1 a=1", "a=1 a=1", "a=1 a=2", "aa=1 a=1", "a=1 c=1 b=1", "a=1 b=1 b=1", "a=1 b=1 aa=1",
    # The book without words beside others.
    "- ", " -", "--", "- -", "- a=1", "a=1 -", "-\n", "a=1 b", "b a=1", "~", "[]", "()", "[('a', 1)]", "none", "0", "1",
]


def drawn_books(many):
    """So many books, the same each time, of up to sixty words."""
    draw = random.Random(20)
    words = naive.small_texts(5, "abz")[1:]
    weights = [0, 1, -1, 9, 10, -10, BIG, -BIG, 10 ** 29, -(10 ** 29)]
    books = []
    for turn in range(many):
        some = sorted(draw.sample(words, draw.randint(0, 60)))
        books.append([(word, draw.choice([draw.choice(weights), draw.randint(-999, 999)])) for word in some])
    return books


class ShowBookTest(unittest.TestCase):
    def test_written(self):
        for book, text in WRITTEN:
            self.assertEqual(show_book(book), text)
            self.assertIsInstance(show_book(book), str)


class ReadBookTest(unittest.TestCase):
    def test_read(self):
        for book, text in WRITTEN:
            told = read_book(text)
            self.assertEqual(told, book)
            self.assertIs(is_book(told), True)

    def test_no_writings(self):
        for text in NO_WRITINGS:
            with self.subTest(text=text):
                with self.assertRaises(NoWriting):
                    read_book(text)

    def test_other_kinds(self):
        others = [thing for thing in naive.ANYTHING if thing != "-"]
        for thing in others + [b"a=1", b"-", [("a", 1)], ["a=1"], ("-",), {"a": 1}, [], NoWriting("a=1")]:
            with self.subTest(thing=thing):
                with self.assertRaises(NoWriting):
                    read_book(thing)

    def test_a_list_that_holds_itself(self):
        ring = []
        ring.append(ring)
        with self.assertRaises(NoWriting):
            read_book(ring)

    def test_long_texts_that_write_none(self):
        for text in ["a" * 2000, "=" * 2000, "-" * 2000, " " * 2000, "0" * 2000, "a=" + "0" * 1998, "a=1 " * 500]:
            with self.assertRaises(NoWriting):
                read_book(text)

    def test_all_small_texts(self):
        """Of all short texts of these signs just those are read that are the writing of a book."""
        # No text of five signs writes a longer word, a weight beyond these, or two words.
        books = [[]] + [[(word, weight)] for word in naive.small_texts(3)[1:] for weight in range(-11, 112)]
        writings = {show_book(book): book for book in books}
        read = 0
        for text in naive.small_texts(5, "ab=-01 "):
            if text in writings:
                self.assertEqual(read_book(text), writings[text])
                read += 1
            else:
                with self.assertRaises(NoWriting, msg=text):
                    read_book(text)
        self.assertGreater(read, 20)


class BackAndForthTest(unittest.TestCase):
    def test_drawn(self):
        for book in drawn_books(200):
            text = show_book(book)
            self.assertEqual(read_book(text), book)
            self.assertEqual(show_book(read_book(text)), text)

    def test_small_books(self):
        for book in naive.small_books():
            self.assertEqual(read_book(show_book(book)), book)

    def test_what_is_read_is_written_so(self):
        """Of writings with one sign changed, put in or left out those that are read are written just so."""
        draw = random.Random(4)
        refused = 0
        for book in drawn_books(60):
            text = show_book(book[:4])
            for turn in range(40):
                at = draw.randrange(len(text) + 1)
                changed = text[:at] + draw.choice(["", "a", "=", "-", "0", "5", " ", "+"]) + text[at + draw.randint(0, 1):]
                try:
                    told = read_book(changed)
                except CutError:
                    refused += 1
                    continue
                self.assertIs(is_book(told), True)
                self.assertEqual(show_book(told), changed)
        self.assertGreater(refused, 500)

    def test_weights_of_somewhat_more_figures(self):
        for figures in range(31, 60):
            book = [("a", 10 ** figures), ("b", -(10 ** figures))]
            self.assertEqual(read_book(show_book(book)), book)

    def test_sixty_words_of_thirty_figures(self):
        words = ["abcdefghij" + tail for tail in naive.small_texts(2, "abcdefgh")[9:69]]
        book = [(word, -BIG + at) for at, word in enumerate(words)]
        self.assertEqual(len(book), 60)
        self.assertIs(is_book(book), True)
        self.assertEqual(read_book(show_book(book)), book)


class KeepTest(unittest.TestCase):
    def test_what_is_handed_in_stays(self):
        for book, text in WRITTEN:
            kept = copy.deepcopy(book)
            show_book(book)
            self.assertEqual(book, kept)

    def test_told_lists_are_the_askers_own(self):
        for book, text in WRITTEN:
            naive.check_own(self, lambda: read_book(text))

    def test_a_changed_book_is_seen(self):
        book = [("a", 1)]
        self.assertEqual(show_book(book), "a=1")
        book[0] = ("a", 2)
        book.append(("b", -3))
        self.assertEqual(show_book(book), "a=2 b=-3")
        book.clear()
        self.assertEqual(show_book(book), "-")


if __name__ == "__main__":
    unittest.main()
