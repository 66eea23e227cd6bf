"""Points 13 and 14, and what point 2 says of them: bookcuts.twice."""

import copy
import itertools
import random
import unittest

import naive
from bookcuts.counted import cut_by, cut_count
from bookcuts.twice import cut_twice, plain_paper, plain_shows


def book_of(*words):
    return [(word, 1) for word in sorted(words)]


def drawn_books(many, signs, letters):
    """So many books, the same each time, of words that have so many signs in all, or fewer."""
    draw = random.Random(11)
    books = []
    for turn in range(many):
        words = set()
        left = signs
        while left > 0:
            length = min(left, draw.randint(1, draw.choice([3, 6, 12])))
            words.add("".join(draw.choice(letters) for sign in range(length)))
            left -= length
        books.append(book_of(*words))
    return books


PLAIN = [
    [], book_of("a"), book_of("abc", "d"), book_of("ab", "ba"), book_of("a", "ab"), book_of("a", "ab", "bb"),
    book_of("ab", "abb", "abbb"), book_of("aa", "b"), book_of("a" * 12), book_of("abab", "ababb"),
]

NOT_PLAIN = [
    (book_of("a", "aa"), ("aa", ["a", "a"], ["aa"])),
    (book_of("a", "ab", "b"), ("ab", ["a", "b"], ["ab"])),
    (book_of("aa", "aaa"), ("aaaaa", ["aa", "aaa"], ["aaa", "aa"])),
    (book_of("a", "ab", "bb", "bbbbb"), ("abbbbb", ["a", "bbbbb"], ["ab", "bb", "bb"])),
    (book_of("abb", "b", "bab", "babbb"), ("babb", ["b", "abb"], ["bab", "b"])),
]


class CutTwiceTest(unittest.TestCase):
    def test_plain(self):
        for book in PLAIN:
            self.assertIsNone(cut_twice(book), book)

    def test_not_plain(self):
        for book, told in NOT_PLAIN:
            self.assertEqual(cut_twice(book), told)

    def test_a_tuple_of_a_text_and_two_lists(self):
        told = cut_twice(book_of("a", "aa"))
        self.assertIsInstance(told, tuple)
        self.assertEqual([type(part) for part in told], [str, list, list])

    def test_the_first_of_several(self):
        self.assertEqual(cut_twice(book_of("x", "xx", "b", "bb"))[0], "bb")
        self.assertEqual(cut_twice(book_of("a", "ac", "ab", "b", "c"))[0], "ab")
        # Both aaa and aba have two cuts, and both leave a on their way.
        self.assertEqual(cut_twice(book_of("a", "aaa", "ab", "ba")), ("aaa", ["a", "a", "a"], ["aaa"]))
        # Both begin with the same word, and what is left of it is made longer in two ways.
        self.assertEqual(cut_twice(book_of("p", "pqc", "qcb", "qca", "a", "b"))[0], "pqca")

    def test_the_shortest_though_a_later_one(self):
        self.assertEqual(cut_twice(book_of("aaaa", "aaaaaa", "z", "zz"))[0], "zz")
        self.assertEqual(cut_twice(book_of("a", "abcdefgh", "bcdefgh", "y", "yx", "x"))[0], "yx")

    def test_the_shortest_though_of_more_words(self):
        # Three words and three words make five letters, one word and two make seven.
        book = book_of("a", "ab", "bc", "cd", "de", "e", "p", "pqrstuv", "qrstuv")
        self.assertEqual(cut_twice(book), ("abcde", ["a", "bc", "de"], ["ab", "cd", "e"]))

    def test_the_first_two_of_several_cuts(self):
        book = book_of("a", "ab", "abc", "b", "bc", "c")
        self.assertEqual(cut_twice(book)[0], "ab")
        self.assertEqual(cut_twice(book_of("aab", "aa", "a", "b", "ab")), ("aa", ["a", "a"], ["aa"]))
        three = book_of("abcd", "ab", "cd", "a", "bcd")
        self.assertEqual(cut_twice(three), ("abcd", ["a", "bcd"], ["ab", "cd"]))

    def test_weights_do_not_matter(self):
        self.assertEqual(cut_twice([("a", -5), ("aa", 10 ** 29)]), ("aa", ["a", "a"], ["aa"]))
        self.assertIsNone(cut_twice([("a", -5), ("ab", 10 ** 29)]))

    def test_against_short_texts(self):
        for book in naive.small_books():
            told = cut_twice(book)
            texts = [text for text in naive.small_texts(8) if len(naive.naive_cuts(book, text)) > 1]
            self.assertEqual(told[0] if told else None, texts[0] if texts else None, book)
            if told:
                self.assertEqual(list(told[1:]), naive.naive_cuts(book, told[0])[:2])

    def test_against_all_texts_letter_by_letter(self):
        words = naive.small_texts(3)[1:]
        books = [book_of(*some) for many in (2, 3) for some in itertools.combinations(words, many)]
        books += drawn_books(150, 12, "ab") + drawn_books(150, 20, "ab") + drawn_books(150, 20, "abc")
        for book in books:
            told = cut_twice(book)
            self.assertEqual(told[0] if told else None, naive.naive_first_twice(book), book)

    def test_eighty_signs(self):
        for book in drawn_books(150, 80, "ab") + drawn_books(150, 80, "abcdef"):
            told = cut_twice(book)
            if told is None:
                self.assertIs(plain_shows(book, plain_paper(book)), True)
            else:
                text, first, second = told
                self.assertGreaterEqual(cut_count(book, text), 2)
                self.assertEqual([first, second], [cut_by(book, text, 0), cut_by(book, text, 1)])

    def test_long_words(self):
        book = book_of("a" * 11, "a" * 12)
        self.assertEqual(cut_twice(book), ("a" * 23, ["a" * 11, "a" * 12], ["a" * 12, "a" * 11]))
        many = book_of(*["a" * length for length in range(1, 13)])
        self.assertEqual(cut_twice(many), ("aa", ["a", "a"], ["aa"]))
        chain = book_of("x", "xab", "abab", "aby", "y")
        self.assertEqual(cut_twice(chain), ("xaby", ["x", "aby"], ["xab", "y"]))


class PlainPaperTest(unittest.TestCase):
    def test_plain(self):
        self.assertEqual(plain_paper([]), [])
        self.assertEqual(plain_paper(book_of("a", "b")), [])
        self.assertEqual(plain_paper(book_of("a", "ab")), ["b"])
        self.assertEqual(plain_paper(book_of("a", "ab", "bb")), ["b"])
        self.assertEqual(plain_paper(book_of("ab", "abb", "abbb")), ["b", "bb"])
        self.assertEqual(plain_paper(book_of("a", "ab", "bcd")), ["b", "cd"])
        # What is left of a text of the list that begins with a word.
        self.assertEqual(plain_paper(book_of("a", "abcd", "bc")), ["bcd", "d"])

    def test_not_plain(self):
        for book, told in NOT_PLAIN:
            self.assertIsNone(plain_paper(book), book)

    def test_just_where_no_text_has_two_cuts(self):
        words = naive.small_texts(3)[1:]
        books = PLAIN + [book_of(*some) for many in (1, 2, 3) for some in itertools.combinations(words, many)]
        books += drawn_books(150, 20, "abc") + drawn_books(150, 80, "abcd")
        kinds = set()
        for book in books:
            paper = plain_paper(book)
            kinds.add(paper is None)
            self.assertEqual(paper is None, cut_twice(book) is not None, book)
            self.assertEqual(paper, naive.naive_plain_paper(book), book)
            if paper is not None:
                self.assertIs(plain_shows(book, paper), True, book)
        self.assertEqual(kinds, {True, False})

    def test_the_least(self):
        for book in PLAIN + [book_of("a", "abcd", "bc")]:
            paper = plain_paper(book)
            for many in range(len(paper)):
                for fewer in itertools.combinations(paper, many):
                    self.assertIs(plain_shows(book, list(fewer)), False, (book, fewer))


class PlainShowsTest(unittest.TestCase):
    BOOK = book_of("ab", "abb", "abbb")

    def test_ordinary(self):
        self.assertIs(plain_shows(self.BOOK, ["b", "bb"]), True)
        self.assertIs(plain_shows([], []), True)
        self.assertIs(plain_shows(book_of("a", "b"), []), True)
        self.assertIs(plain_shows(self.BOOK, []), False)

    def test_rising_and_each_once(self):
        self.assertIs(plain_shows(self.BOOK, ["bb", "b"]), False)
        self.assertIs(plain_shows(self.BOOK, ["b", "b", "bb"]), False)
        self.assertIs(plain_shows(self.BOOK, ["b", "bb", "bb"]), False)
        self.assertIs(plain_shows([], ["b", "a"]), False)
        self.assertIs(plain_shows([], ["a", "a"]), False)

    def test_none_without_letters(self):
        self.assertIs(plain_shows(self.BOOK, ["", "b", "bb"]), False)
        self.assertIs(plain_shows([], [""]), False)
        self.assertIs(plain_shows(book_of("a", "b"), [""]), False)

    def test_a_text_fewer(self):
        self.assertIs(plain_shows(self.BOOK, ["b"]), False)
        self.assertIs(plain_shows(self.BOOK, ["bb"]), False)
        self.assertIs(plain_shows(book_of("a", "abcd", "bc"), ["bcd"]), False)
        self.assertIs(plain_shows(book_of("a", "ab", "bcd"), ["b"]), False)

    def test_a_text_more(self):
        # One that no word begins with, and that begins with none, needs nothing more.
        self.assertIs(plain_shows(self.BOOK, ["b", "bb", "bbb"]), True)
        self.assertIs(plain_shows(self.BOOK, ["b", "bb", "z"]), True)
        self.assertIs(plain_shows(self.BOOK, ["aa", "b", "bb"]), True)
        # One that is a word leaves nothing, and one that begins with a word or begins it leaves what is missing.
        self.assertIs(plain_shows(self.BOOK, ["ab", "b", "bb"]), False)
        self.assertIs(plain_shows(self.BOOK, ["abz", "b", "bb"]), False)
        self.assertIs(plain_shows(self.BOOK, ["a", "b", "bb"]), False)
        # What these leave is there, too.
        self.assertIs(plain_shows(self.BOOK, ["a", "b", "bb", "bbb"]), True)
        self.assertIs(plain_shows(self.BOOK, ["abz", "b", "bb", "z"]), True)
        self.assertIs(plain_shows(self.BOOK, ["abc", "b", "bb", "c"]), True)

    def test_papers_of_another_book(self):
        for one, other in itertools.permutations(PLAIN, 2):
            paper = plain_paper(one)
            self.assertIs(plain_shows(other, paper), naive.naive_plain_shows(other, paper), (one, other))
        self.assertIs(plain_shows(book_of("a", "ac"), plain_paper(book_of("a", "ab"))), False)

    def test_no_paper_of_a_book_that_is_not_plain(self):
        texts = naive.small_texts(3)
        for book in [book_of("a", "aa"), book_of("a", "ab", "b"), book_of("aa", "aaa")]:
            for many in range(4):
                for paper in itertools.combinations(sorted(texts), many):
                    self.assertIs(plain_shows(book, list(paper)), False, (book, paper))

    def test_all_small_papers(self):
        texts = naive.small_texts(2)
        for book in naive.small_books():
            for many in range(4):
                for paper in itertools.product(texts, repeat=many):
                    told = plain_shows(book, list(paper))
                    self.assertIs(told, naive.naive_plain_shows(book, list(paper)), (book, paper))

    def test_what_is_no_list_of_texts(self):
        for paper in [("b", "bb"), {"b": 1, "bb": 1}, "b", None, 0]:
            self.assertIs(plain_shows(self.BOOK, paper), False, paper)
        for thing in naive.NO_TEXTS:
            self.assertIs(plain_shows([], [thing]), False, thing)

    def test_long_texts_and_lists(self):
        self.assertIs(plain_shows(self.BOOK, ["b", "bb", "z" * 2000]), True)
        self.assertIs(plain_shows(book_of("a"), ["a" * many for many in range(1, 2001)]), False)
        self.assertIs(plain_shows(book_of("a"), sorted("b" * many + "c" for many in range(1, 1001))), True)


class KeepTest(unittest.TestCase):
    def test_what_is_handed_in_stays(self):
        for words in [("a", "aa"), ("ab", "abb", "abbb")]:
            book = book_of(*words)
            before = copy.deepcopy(book)
            paper = ["b", "bb"]
            cut_twice(book)
            plain_paper(book)
            plain_shows(book, paper)
            self.assertEqual(book, before)
            self.assertEqual(paper, ["b", "bb"])

    def test_told_lists_are_the_askers_own(self):
        naive.check_own(self, lambda: cut_twice(book_of("a", "aa")))
        naive.check_own(self, lambda: plain_paper(book_of("ab", "abb", "abbb")))
        naive.check_own(self, lambda: plain_paper([]))

    def test_a_changed_book_is_seen(self):
        book = [("a", 1)]
        self.assertIsNone(cut_twice(book))
        self.assertEqual(plain_paper(book), [])
        book.append(("ab", 1))
        self.assertEqual(plain_paper(book), ["b"])
        book.append(("b", 1))
        self.assertEqual(cut_twice(book), ("ab", ["a", "b"], ["ab"]))
        self.assertIs(plain_shows(book, ["b"]), False)


if __name__ == "__main__":
    unittest.main()
