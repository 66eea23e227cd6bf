"""Point 3, what point 2 says of all, and the interface, over the whole program."""

import copy
import importlib
import inspect
import itertools
import random
import unittest

import naive
from bookcuts.always import all_places, all_words, some_words
from bookcuts.best import best_cut, best_paper, best_shows
from bookcuts.books import is_book, is_cut, weight_of, words_at
from bookcuts.counted import cut_by, cut_count, number_of
from bookcuts.desk import Desk
from bookcuts.full import full_paper, full_shows, least_uncut
from bookcuts.reader import Reader
from bookcuts.texts import read_book, show_book
from bookcuts.twice import cut_twice, plain_paper, plain_shows
from bookcuts.twobooks import parting_text, same_paper, same_shows
from bookcuts.whether import barring_stretch, can_cut, first_cut, is_bar, least_bar, lies_in

WAYS = ["fewest", "heaviest"]
BIG = 10 ** 30 - 1

# The functions of each module, and how many arguments each takes.
FUNCTIONS = {
    "books": {"is_book": 1, "words_at": 3, "is_cut": 3, "weight_of": 3},
    "whether": {"can_cut": 2, "first_cut": 2, "is_bar": 3, "least_bar": 2, "lies_in": 2, "barring_stretch": 2},
    "counted": {"cut_count": 2, "cut_by": 3, "number_of": 3},
    "best": {"best_cut": 3, "best_paper": 3, "best_shows": 5},
    "always": {"some_words": 2, "all_words": 2, "all_places": 2},
    "twice": {"cut_twice": 1, "plain_paper": 1, "plain_shows": 2},
    "full": {"least_uncut": 2, "full_paper": 2, "full_shows": 3},
    "twobooks": {"parting_text": 2, "same_paper": 2, "same_shows": 3},
    "texts": {"show_book": 1, "read_book": 1},
}
METHODS = {
    ("reader", "Reader"): {
        "put": 2, "drop": 1, "read": 1, "book": 0, "text": 0, "can": 0, "count": 0, "best": 1,
    },
    ("desk", "Desk"): {"say": 1},
}


def wide_book():
    """A book of three hundred words, of one to twelve letters, with weights of up to thirty figures."""
    words = naive.small_texts(8)[1:290] + ["ab" * many for many in range(5, 7)] + ["c" * many for many in range(1, 10)]
    return [(word, (-1) ** at * (at if at < 290 else BIG)) for at, word in enumerate(sorted(words))]


def asked_of_text(book, text):
    """All that is told of a book and a text, things that may hold lists."""
    told = [
        words_at(book, text, 0), first_cut(book, text), least_bar(book, text), barring_stretch(book, text),
        can_cut(book, text), lies_in(book, text), cut_count(book, text),
        *[best_cut(book, text, way) for way in WAYS], *[best_paper(book, text, way) for way in WAYS],
    ]
    if can_cut(book, text):
        told += [cut_by(book, text, 0), some_words(book, text), all_words(book, text), all_places(book, text)]
        told += [number_of(book, text, told[1]), weight_of(book, text, told[1]), is_cut(book, text, told[1])]
    return told


class InterfaceTest(unittest.TestCase):
    def check_arguments(self, function, many):
        inspect.signature(function).bind(*[None] * many)
        with self.assertRaises(TypeError):
            inspect.signature(function).bind(*[None] * (many + 1))

    def test_functions(self):
        for module, functions in FUNCTIONS.items():
            for name, many in functions.items():
                with self.subTest(name=name):
                    self.check_arguments(getattr(importlib.import_module("bookcuts." + module), name), many)

    def test_classes(self):
        for (module, name), methods in METHODS.items():
            kind = getattr(importlib.import_module("bookcuts." + module), name)
            kind()
            for method, many in methods.items():
                with self.subTest(method=method):
                    self.check_arguments(vars(kind)[method], many + 1)


class CutOrBarTest(unittest.TestCase):
    def test_just_one_is_told(self):
        for book in naive.small_books():
            for text in naive.small_texts():
                cut, bar = first_cut(book, text), least_bar(book, text)
                self.assertEqual([cut is None, bar is None].count(True), 1)
                self.assertIs(is_cut(book, text, cut), cut is not None)
                self.assertIs(is_bar(book, text, bar), bar is not None)
                self.assertIs(can_cut(book, text), cut is not None)
                if barring_stretch(book, text) is not None:
                    self.assertIsNone(cut)

    def test_no_bar_of_a_text_with_a_cut(self):
        for book in naive.small_books():
            for text in naive.small_texts(4):
                places = range(len(text) + 1)
                lists = [list(some) for many in places for some in itertools.combinations(places, many)]
                bars = [some for some in lists if is_bar(book, text, some)]
                self.assertEqual(bars == [], can_cut(book, text))
                # The least one is in each.
                for bar in bars:
                    self.assertTrue(set(least_bar(book, text)) <= set(bar))


class CountedTest(unittest.TestCase):
    def test_each_once_in_order(self):
        for book in naive.small_books():
            for text in naive.small_texts():
                cuts = [cut_by(book, text, number) for number in range(cut_count(book, text))]
                self.assertEqual(cuts, naive.naive_cuts(book, text))
                self.assertEqual([number_of(book, text, cut) for cut in cuts], list(range(len(cuts))))

    def test_none_is_better_than_the_told_one(self):
        for book in naive.small_books():
            for text in naive.small_texts():
                for way in WAYS:
                    told = best_cut(book, text, way)
                    self.assertEqual(told, naive.naive_best(book, text, way))
                    paper = best_paper(book, text, way)
                    self.assertEqual(told is None, paper is None)
                    if told is not None:
                        self.assertIs(best_shows(book, text, way, told[0], paper), True)


class AllTextsTest(unittest.TestCase):
    """What is told of all texts is shown by a paper, or else a shortest text shows the other."""

    def test_none_has_two_cuts(self):
        for book in naive.small_books():
            told, paper = cut_twice(book), plain_paper(book)
            self.assertEqual(told is None, paper is not None)
            if told is None:
                self.assertIs(plain_shows(book, paper), True)
            else:
                self.assertGreater(cut_count(book, told[0]), 1)

    def test_each_has_one(self):
        for book in naive.small_books():
            for letters in ["a", "b", "ab", "abc"]:
                told, paper = least_uncut(book, letters), full_paper(book, letters)
                self.assertEqual(told is None, paper is not None)
                if told is None:
                    self.assertIs(full_shows(book, letters, paper), True)
                else:
                    self.assertIs(can_cut(book, told), False)

    def test_two_books_cut_the_same(self):
        for one, other in itertools.product(naive.small_books(), repeat=2):
            told, paper = parting_text(one, other), same_paper(one, other)
            self.assertEqual(told is None, paper is not None)
            if told is None:
                self.assertIs(same_shows(one, other, paper), True)
            else:
                self.assertNotEqual(can_cut(one, told), can_cut(other, told))


class ReaderTest(unittest.TestCase):
    def test_what_one_tells_that_reads_anew(self):
        draw = random.Random(12)
        for turn in range(40):
            reader, desk = Reader(), Desk()
            words = {}
            for word in draw.choices(naive.PAIR_WORDS, k=12):
                if word in words and draw.random() < 0.6:
                    self.assertEqual(len(reader.drop(word)), 2)
                    desk.say("drop " + word)
                    del words[word]
                else:
                    words[word] = draw.randint(-5, 5)
                    reader.put(word, words[word])
                    desk.say(f"put {word} {words[word]}")
                letters = draw.choice(["a", "b", "ab", "ba"])
                reader.read(letters)
                desk.say("text " + letters)
            book, text = reader.book(), reader.text()
            self.assertEqual(book, sorted(words.items()))
            self.assertEqual(reader.can(), can_cut(book, text))
            self.assertEqual(reader.count(), cut_count(book, text))
            for way in WAYS:
                self.assertEqual(reader.best(way), best_cut(book, text, way))
            self.assertEqual(read_book(desk.say("book")), book)
            self.assertEqual(desk.say("count"), str(reader.count()))


class BoundsTest(unittest.TestCase):
    def check(self):
        book = wide_book()
        self.assertEqual((len(book), is_book(book)), (300, True))
        for text in ["abbab" * 400, "c" * 2000, "abc" * 666 + "zz", "a" * 1999 + "z"]:
            asked_of_text(book, text)
        # For the papers that hold for all texts the words have fewer signs.
        eighty = [(word, 1) for word in sorted("ab" + "b" * many for many in range(11))]
        plain_shows(eighty, plain_paper(eighty))
        cut_twice(eighty + [("b", 1)])
        sixteen = [("a", 1), ("aaaa", 1), ("aab", 1), ("aabbab", 1), ("b", 1)]
        full_shows(sixteen, "ab", full_paper(sixteen, "ab"))
        same_shows(sixteen, sixteen, same_paper(sixteen, sixteen))
        parting_text(sixteen, sixteen[1:])

    def test_books_of_three_hundred_words_and_texts_of_two_thousand_signs(self):
        self.check()

    def test_no_deep_recursion(self):
        naive.without_depth(self.check)


class KeepTest(unittest.TestCase):
    def test_what_is_handed_in_stays(self):
        for book in naive.small_books():
            kept = copy.deepcopy(book)
            for text in naive.small_texts(3):
                asked_of_text(book, text)
            for ask in [is_book, show_book, cut_twice, plain_paper]:
                ask(book)
            for ask in [parting_text, same_paper]:
                ask(book, book)
            full_paper(book, "ab")
            self.assertEqual(book, kept)

    def test_told_lists_are_the_askers_own(self):
        for book in naive.small_books():
            for text in naive.small_texts(3):
                naive.check_own(self, lambda: asked_of_text(book, text))

    def test_a_handed_book_is_not_kept(self):
        book = [("a", 1), ("b", 1)]
        paper = same_paper(book, book)
        book.append(("c", 1))
        self.assertEqual(paper, [([""], [""])])
        reader = Reader()
        for word, weight in book:
            reader.put(word, weight)
        book.clear()
        self.assertEqual(reader.book(), [("a", 1), ("b", 1), ("c", 1)])


if __name__ == "__main__":
    unittest.main()
