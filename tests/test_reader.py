"""Point 17, and what points 2 and 3 say of it: bookcuts.reader."""

import random
import unittest

import naive
from bookcuts.best import best_cut
from bookcuts.books import is_book
from bookcuts.counted import cut_count
from bookcuts.errors import CutError, NoText, NoWord
from bookcuts.reader import Reader
from bookcuts.whether import can_cut

WAYS = ["fewest", "heaviest"]
BIG = 10 ** 30 - 1
WORDS = naive.small_texts(4)[1:]

# Texts of small letters that are too short or too long for a word.
NO_LENGTHS = ["", "a" * 13, "abcdefghijklm", "z" * 2000]
NO_WORDS = naive.NO_TEXTS + NO_LENGTHS


def reader_of(book, *texts):
    reader = Reader()
    for word, weight in book:
        reader.put(word, weight)
    for text in texts:
        reader.read(text)
    return reader


def all_told(reader):
    """All that a reader tells without being changed."""
    return [
        reader.book(), reader.text(), reader.can(), reader.count(), reader.best("fewest"), reader.best("heaviest"),
    ]


def told_anew(book, text):
    """What the other modules tell of the same book and text."""
    return [
        book, text, can_cut(book, text), cut_count(book, text),
        best_cut(book, text, "fewest"), best_cut(book, text, "heaviest"),
    ]


class OrdinaryTest(unittest.TestCase):
    def test_at_first(self):
        self.assertEqual(all_told(Reader()), [[], "", True, 1, (0, []), (0, [])])

    def test_put_and_read(self):
        reader = Reader()
        self.assertEqual(reader.read("abab"), ([], []))
        self.assertIs(reader.can(), False)
        self.assertEqual(reader.count(), 0)
        self.assertIsNone(reader.best("fewest"))
        self.assertEqual(reader.put("ab", 5), ([], [2, 4]))
        self.assertEqual(reader.put("a", 1), ([], [1, 3]))
        self.assertEqual(reader.put("b", 9), ([], []))
        self.assertEqual(reader.book(), [("a", 1), ("ab", 5), ("b", 9)])
        self.assertEqual(reader.text(), "abab")
        self.assertIs(reader.can(), True)
        self.assertEqual(reader.count(), 4)
        self.assertEqual(reader.best("fewest"), (-2, ["ab", "ab"]))
        self.assertEqual(reader.best("heaviest"), (20, ["a", "b", "a", "b"]))

    def test_drop(self):
        reader = reader_of([("a", 1), ("ab", 5), ("b", 9)], "abab")
        self.assertEqual(reader.drop("a"), ([1, 3], []))
        self.assertEqual(reader.drop("b"), ([], []))
        self.assertEqual(reader.drop("ab"), ([2, 4], []))
        self.assertEqual(all_told(reader), [[], "abab", False, 0, None, None])
        self.assertEqual(reader.put("ab", 5), ([], [2, 4]))

    def test_read_in_pieces(self):
        reader = reader_of([("ab", 1), ("c", 1), ("cab", 1)])
        self.assertEqual(reader.read("a"), ([], []))
        # Words may begin in one piece and end in another.
        self.assertEqual(reader.read("b"), ([], [2]))
        self.assertEqual(reader.read("ca"), ([], [3]))
        self.assertEqual(reader.read("b"), ([], [5]))
        self.assertEqual(reader.text(), "abcab")
        self.assertEqual(reader.count(), 2)

    def test_the_text_without_letters(self):
        reader = Reader()
        self.assertEqual(reader.read(""), ([], []))
        self.assertEqual(reader.put("a", 1), ([], []))
        self.assertEqual(reader.read(""), ([], []))
        self.assertEqual(all_told(reader), [[("a", 1)], "", True, 1, (0, []), (0, [])])
        reader.read("aa")
        self.assertEqual(reader.read(""), ([], []))
        self.assertEqual(reader.text(), "aa")
        self.assertEqual(reader.drop("a"), ([1, 2], []))
        self.assertEqual(reader.read(""), ([], []))

    def test_nought_is_never_gone_or_come(self):
        reader = Reader()
        for tell in [lambda: reader.put("a", 1), lambda: reader.read("ab"), lambda: reader.drop("a")]:
            for places in tell():
                self.assertNotIn(0, places)

    def test_put_again(self):
        reader = reader_of([("a", 1), ("aa", 1)], "aaa")
        self.assertEqual(reader.best("heaviest"), (3, ["a", "a", "a"]))
        self.assertEqual(reader.put("aa", 3), ([], []))
        self.assertEqual(reader.book(), [("a", 1), ("aa", 3)])
        self.assertEqual(reader.best("heaviest"), (4, ["a", "aa"]))
        self.assertEqual(reader.put("aa", 3), ([], []))
        self.assertEqual(reader.count(), 3)
        self.assertEqual(reader.put("aa", -BIG), ([], []))
        self.assertEqual(reader.best("heaviest"), (3, ["a", "a", "a"]))
        self.assertEqual(reader.best("fewest"), (-2, ["a", "aa"]))
        self.assertEqual(reader.put("a", BIG), ([], []))
        self.assertEqual(reader.best("heaviest"), (3 * BIG, ["a", "a", "a"]))

    def test_words_that_stand_nowhere(self):
        reader = reader_of([("ab", 1)], "abab")
        self.assertEqual(reader.put("z", 1), ([], []))
        self.assertEqual(reader.put("ababa", 1), ([], []))
        self.assertEqual(reader.drop("z"), ([], []))
        self.assertEqual(reader.drop("ababa"), ([], []))
        # It stands in the text, but no cut leads to where it begins.
        self.assertEqual(reader.put("b", 1), ([], []))
        self.assertEqual(reader.put("ba", 1), ([], []))

    def test_a_word_that_overlaps_itself(self):
        reader = reader_of([], "aaaaaa")
        self.assertEqual(reader.put("aaa", 1), ([], [3, 6]))
        self.assertEqual(reader.put("aa", 1), ([], [2, 4, 5]))
        self.assertEqual(reader.drop("aaa"), ([3, 5], []))

    def test_places_that_two_words_lead_to(self):
        reader = reader_of([("a", 1), ("ab", 1), ("b", 1)], "ab")
        self.assertEqual(reader.drop("ab"), ([], []))
        self.assertEqual(reader.count(), 1)
        self.assertEqual(reader.drop("b"), ([2], []))

    def test_the_book_rises(self):
        reader = Reader()
        for word in ["b", "aa", "z", "a", "ab", "y"]:
            reader.put(word, 0)
        self.assertEqual([word for word, weight in reader.book()], ["a", "aa", "ab", "b", "y", "z"])
        self.assertIs(is_book(reader.book()), True)

    def test_kinds(self):
        reader = Reader()
        for told in [reader.read("ab"), reader.put("ab", 1), reader.drop("ab")]:
            self.assertIsInstance(told, tuple)
            self.assertEqual([type(places) for places in told], [list, list])
        self.assertIsInstance(reader.book(), list)
        self.assertIsInstance(reader.text(), str)
        self.assertIs(reader.can(), False)
        self.assertIs(reader_of([("a", 1)], "a").can(), True)
        self.assertIs(type(reader.count()), int)

    def test_words_of_one_and_of_twelve_letters(self):
        reader = reader_of([], "a" * 24)
        self.assertEqual(reader.put("a" * 12, 1), ([], [12, 24]))
        self.assertEqual(reader.put("a", 1), ([], [place for place in range(1, 24) if place != 12]))

    def test_methods_stand_in_the_class(self):
        for name in ["put", "drop", "read", "book", "text", "can", "count", "best"]:
            self.assertIn(name, vars(Reader))


class RefusedTest(unittest.TestCase):
    def check(self, ask, refusal, things):
        reader = reader_of([("a", 1), ("ab", 5), ("b", -2)], "aba", "b")
        before = all_told(reader)
        for thing in things:
            with self.subTest(thing=thing):
                with self.assertRaises(refusal):
                    ask(reader, thing)
                self.assertEqual(all_told(reader), before)
        # The places, too, are those of before.
        self.assertEqual(reader.drop("b"), ([], []))
        self.assertEqual(reader.drop("a"), ([1, 3], []))
        self.assertEqual(reader.drop("ab"), ([2, 4], []))

    def test_what_is_no_word_to_put(self):
        self.check(lambda reader, thing: reader.put(thing, 1), NoWord, NO_WORDS)
        self.check(lambda reader, thing: reader.put(thing, -BIG), NoWord, NO_WORDS)

    def test_what_is_no_word_to_drop(self):
        self.check(lambda reader, thing: reader.drop(thing), NoWord, NO_WORDS)

    def test_a_word_to_drop_that_is_not_there(self):
        others = ["aa", "ba", "c", "aba", "abab", "z" * 12]
        self.check(lambda reader, thing: reader.drop(thing), NoWord, others)

    def test_what_is_no_text(self):
        self.check(lambda reader, thing: reader.read(thing), NoText, naive.NO_TEXTS)

    def test_a_list_that_holds_itself(self):
        ring = []
        ring.append(ring)
        self.check(lambda reader, thing: reader.put(thing, 1), NoWord, [ring])
        self.check(lambda reader, thing: reader.drop(thing), NoWord, [ring])
        self.check(lambda reader, thing: reader.read(thing), NoText, [ring])

    def test_of_a_new_reader(self):
        reader = Reader()
        for thing in NO_WORDS:
            with self.assertRaises(NoWord):
                reader.put(thing, 1)
            with self.assertRaises(NoWord):
                reader.drop(thing)
        with self.assertRaises(NoWord):
            reader.drop("a")
        with self.assertRaises(NoText):
            reader.read(None)
        self.assertEqual(all_told(reader), all_told(Reader()))

    def test_dropped_twice(self):
        reader = reader_of([("a", 1)], "a")
        reader.drop("a")
        with self.assertRaises(NoWord):
            reader.drop("a")
        self.assertEqual(reader.put("a", 2), ([], [1]))
        self.assertEqual(reader.drop("a"), ([1], []))


class Slow:
    """A book and a text, and slow answers of them."""

    def __init__(self):
        self.weights = {}
        self.signs = ""

    def book(self):
        return sorted(self.weights.items())

    def change(self, reader, deed):
        """Do a deed, a list, here and by the reader; what both tell of it, a list of two."""
        before = naive.naive_led(self.book(), self.signs)
        name, *things = deed
        told = getattr(reader, name)(*things)
        if name == "put":
            self.weights[things[0]] = things[1]
        elif name == "drop":
            del self.weights[things[0]]
        else:
            self.signs += things[0]
        return [told, naive.naive_change(before, naive.naive_led(self.book(), self.signs))]


def drawn_deed(draw, slow, most):
    """A deed that may be done, of words and texts of a and b; the text never has more than so many letters."""
    there = sorted(slow.weights)
    kind = draw.choice(["put", "put", "again", "same", "drop", "read", "read"])
    if kind in ["again", "same", "drop"] and not there:
        kind = "put"
    if kind == "put":
        return ["put", draw.choice(WORDS), draw.choice([0, 1, -1, 7, -7, BIG, -BIG])]
    if kind == "again":
        return ["put", draw.choice(there), draw.randint(-9, 9)]
    if kind == "same":
        word = draw.choice(there)
        return ["put", word, slow.weights[word]]
    if kind == "drop":
        return ["drop", draw.choice(there)]
    many = min(draw.randint(0, 5), most - len(slow.signs))
    return ["read", "".join(draw.choice("ab") for turn in range(many))]


def draw_wrong(draw, reader):
    """Hand in something that is refused."""
    try:
        draw.choice([lambda: reader.put("A", 1), lambda: reader.drop("q"), lambda: reader.read("a b")])()
    except CutError:
        return
    raise AssertionError("not refused")


class DrawnTest(unittest.TestCase):
    def check_told(self, draw, reader, slow):
        asked = [(name, ()) for name in ["book", "text", "can", "count"]] + [("best", (way,)) for way in WAYS]
        anew = dict(zip(asked, told_anew(slow.book(), slow.signs)))
        for name, things in draw.sample(asked, 4) + draw.sample(asked, 4):
            self.assertEqual(getattr(reader, name)(*things), anew[name, things])

    def check_deeds(self, seed, many, most):
        draw = random.Random(seed)
        reader, slow = Reader(), Slow()
        kept = []
        for turn in range(many):
            deed = drawn_deed(draw, slow, most)
            told, expected = slow.change(reader, deed)
            self.assertEqual(told, expected, (seed, turn, deed))
            kept.append((told, expected))
            if draw.random() < 0.2:
                draw_wrong(draw, reader)
            if draw.random() < 0.5:
                self.check_told(draw, reader, slow)
        for told, expected in kept:
            self.assertEqual(told, expected)
        self.assertEqual(all_told(reader), told_anew(slow.book(), slow.signs))
        self.assertEqual(all_told(reader), all_told(reader_of(slow.book(), slow.signs)))

    def test_short_texts(self):
        for seed in range(60):
            self.check_deeds(seed, 50, 12)

    def test_longer_texts(self):
        for seed in range(10):
            self.check_deeds(100 + seed, 80, 100)

    def test_two_readers_by_turns(self):
        draw = random.Random(5)
        pairs = [(Reader(), Slow()), (Reader(), Slow())]
        for turn in range(300):
            reader, slow = draw.choice(pairs)
            told, expected = slow.change(reader, drawn_deed(draw, slow, 30))
            self.assertEqual(told, expected)
            for reader, slow in pairs:
                self.assertEqual(reader.book(), slow.book())
                self.assertEqual(reader.text(), slow.signs)
        for reader, slow in pairs:
            self.assertEqual(all_told(reader), told_anew(slow.book(), slow.signs))

    def test_the_order_of_deeds_does_not_matter(self):
        draw = random.Random(8)
        for turn in range(30):
            book = draw.choice(naive.small_books())
            deeds = [["put", word, weight] for word, weight in book] + [["read", "abba"], ["read", "bab"]]
            places = deeds[:]
            draw.shuffle(places)
            texts = iter(["abba", "bab"])
            reader = Reader()
            for name, *things in places:
                getattr(reader, name)(*([next(texts)] if name == "read" else things))
            self.assertEqual(all_told(reader), told_anew(book, "abbabab"))


class AllSmallTest(unittest.TestCase):
    def test_books_and_texts(self):
        for book in naive.small_books():
            for text in naive.small_texts(4):
                reader = reader_of(book, text)
                self.assertEqual(all_told(reader), told_anew(book, text))
                cuts = naive.naive_cuts(book, text)
                self.assertEqual(reader.count(), len(cuts))
                self.assertIs(reader.can(), cuts != [])
                for way in WAYS:
                    self.assertEqual(reader.best(way), naive.naive_best(book, text, way))

    def test_a_word_dropped_and_put_back(self):
        for book in naive.small_books():
            for text in naive.small_texts(5):
                reader = reader_of(book, text)
                led = naive.naive_led(book, text)
                for word, weight in book:
                    fewer = naive.naive_led([entry for entry in book if entry[0] != word], text)
                    self.assertEqual(reader.drop(word), naive.naive_change(led, fewer))
                    self.assertEqual(reader.put(word, weight), naive.naive_change(fewer, led))


class BoundsTest(unittest.TestCase):
    def setUp(self):
        words = naive.small_texts(8)[1:]
        self.entries = [(word, at * (-1) ** at) for at, word in enumerate(words[:299])] + [("ab" * 6, BIG)]

    def check_wide(self):
        book = sorted(self.entries)
        self.assertEqual(len(book), 300)
        text = "abbab" * 400
        reader = reader_of(self.entries, text)
        self.assertEqual(reader.book(), book)
        self.assertEqual(all_told(reader), told_anew(book, text))
        return reader

    def test_two_thousand_letters_and_three_hundred_words(self):
        reader = self.check_wide()
        led = naive.naive_led(reader.book(), reader.text())
        for word in ["a", "b", "ab"]:
            reader.drop(word)
        fewer = naive.naive_led(reader.book(), reader.text())
        self.assertEqual(reader.drop("bb"), naive.naive_change(fewer, naive.naive_led(reader.book(), reader.text())))
        self.assertEqual(reader.put("bb", 1)[0], [])
        for word in ["b", "ab", "a"]:
            reader.put(word, 3)
        self.assertEqual(naive.naive_led(reader.book(), reader.text()), led)

    def test_letter_by_letter(self):
        reader = reader_of([("ab", 1), ("aba", -1), ("b", 2)])
        text = "abab" * 500
        led = naive.naive_led(reader.book(), text)
        for place, letter in enumerate(text):
            self.assertEqual(reader.read(letter), ([], [place + 1] if place + 1 in led else []))
        self.assertEqual(reader.text(), text)
        self.assertEqual(all_told(reader), told_anew(reader.book(), text))

    def test_a_word_that_changes_every_place(self):
        reader = reader_of([], "a" * 2000)
        self.assertEqual(reader.put("a", BIG), ([], list(range(1, 2001))))
        self.assertEqual(reader.best("heaviest"), (2000 * BIG, ["a"] * 2000))
        self.assertEqual(reader.put("aa", -BIG), ([], []))
        self.assertGreater(reader.count(), 10 ** 400)
        self.assertEqual(reader.drop("a"), (list(range(1, 2001, 2)), []))
        self.assertEqual(reader.drop("aa"), (list(range(2, 2001, 2)), []))

    def test_no_deep_recursion(self):
        naive.without_depth(self.check_wide)


class KeepTest(unittest.TestCase):
    def test_told_lists_are_the_askers_own(self):
        reader = reader_of([("a", 1), ("ab", 5), ("b", 9)], "abab")
        naive.check_own(self, lambda: all_told(reader))
        naive.check_own(self, reader.book)
        for way in WAYS:
            naive.check_own(self, lambda: reader.best(way))

    def test_told_places_may_be_changed(self):
        reader = reader_of([("ab", 5)], "abab")
        told = []
        for turn in range(3):
            told.append(reader.put("a", 1))
            told.append(reader.drop("a"))
        self.assertEqual(told, [([], [1, 3]), ([1, 3], [])] * 3)
        lists = naive.lists_in(told)[1:]
        self.assertEqual(len({id(places) for places in lists}), 12)
        for gone, come in told:
            gone.append(7)
            come.clear()
        self.assertEqual(reader.put("a", 1), ([], [1, 3]))
        self.assertEqual(all_told(reader), told_anew([("a", 1), ("ab", 5)], "abab"))

    def test_told_lists_kept_to_the_end(self):
        reader = reader_of([("a", 1)], "aa")
        book, best = reader.book(), reader.best("fewest")
        reader.put("aa", 5)
        reader.drop("a")
        reader.read("a")
        self.assertEqual(book, [("a", 1)])
        self.assertEqual(best, (-2, ["a", "a"]))

    def test_a_told_book_changed(self):
        reader = reader_of([("a", 1)], "ab")
        told = reader.book()
        told.append(("b", 1))
        self.assertIs(reader.can(), False)
        self.assertEqual(reader.count(), 0)
        told.clear()
        self.assertEqual(reader.drop("a"), ([1], []))


if __name__ == "__main__":
    unittest.main()
