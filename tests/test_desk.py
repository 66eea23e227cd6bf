"""Point 21, and what points 2 and 3 say of it: bookcuts.desk."""

import random
import unittest

import naive
from bookcuts.best import best_cut
from bookcuts.counted import cut_count
from bookcuts.desk import Desk
from bookcuts.errors import NoRow, NoWord
from bookcuts.texts import read_book, show_book
from bookcuts.twice import cut_twice
from bookcuts.whether import first_cut, least_bar

ASKED = ["cut", "count", "best fewest", "best heaviest", "bar", "book", "plain"]

NO_ROWS = [
    "", " ", "  ", "-", "none", "hello", "PUT a 1", "Cut", "COUNT", "cuts", "can", "read a", "text", "put", "drop", "best",
    # Blanks.
    " cut", "cut ", " cut ", "count ", " bar", "book ", "plain ", " plain", "put  a 1", "put a  1", "put a 1 ", " put a 1",
    "drop  a", "drop a ", " drop a", "text  ab", "text ab ", " text ab", "text a b", "best  fewest", "best fewest ",
    " best fewest", "text ", "drop ", "best ", "put ", "put a ", "put  ", "cut\n", "\ncut", "cut\t", "put\ta\t1", "put a\t1",
    "text ab\n", "text\tab", "drop a\n", "book\n", "best fewest\n", "put a 1\n", "count\ncut", "cut count",
    # A word too many or too few.
    "put a", "put 1", "put a 1 2", "put a b 1", "drop", "drop a b", "text", "text ab ab", "cut a", "count 1", "best",
    "best fewest heaviest", "bar 0", "book a", "plain a", "plain yes", "put a 1 put b 1",
    # Weights.
    "put a 1234567890", "put a -1234567890", "put a 0000000001", "put a +1", "put a 01", "put a -01", "put a 00", "put a -0",
    "put a +0", "put a --1", "put a -", "put a 1.0", "put a 1e3", "put a x", "put a 1-", "put a 1_0", "put a -+1", "put a 0x1",
    "put a " + "9" * 30,
    # Words and letters.
    "put abcdefghijklm 1", "drop abcdefghijklm", "put A 1", "put aB 1", "put a1 1", "put 1 1", "put - 1", "put _ 1",
    "drop A", "drop 1", "drop -", "drop a1", "text A", "text aB", "text 1", "text -", "text a-b", "text ab.", "text `", "text {",
    "put 1 a", "put =a 1", "put a=1", "drop a=1",
    # Ways.
    "best", "best most", "best Fewest", "best HEAVIEST", "best few", "best fewests", "best -", "best cut",
]

OTHER_KINDS = [
    None, True, False, 0, 1, -3, b"cut", b"", [], ["cut"], ("cut",), (), {}, {"cut": 1}, {"cut"}, object(), len, str,
    range(2), Exception("cut"), [[]], ["put", "a", "1"], ("put", "a", 1), Desk(),
]


def desk_of(*rows):
    desk = Desk()
    for row in rows:
        desk.say(row)
    return desk


def all_told(desk):
    """All that a desk tells without being changed."""
    return [desk.say(row) for row in ASKED]


class OrdinaryTest(unittest.TestCase):
    def check(self, *rows):
        """Say the rows to a new desk, each a tuple of what is said and what must be answered."""
        desk = Desk()
        for row, expected in rows:
            self.assertEqual(desk.say(row), expected, row)

    def test_at_first(self):
        self.check(
            ("cut", "-"), ("count", "1"), ("best fewest", "0"), ("best heaviest", "0"), ("bar", "none"),
            ("book", "-"), ("plain", "yes"))

    def test_put_drop_text(self):
        self.check(
            ("text abab", "- -"), ("put ab 5", "- 2,4"), ("put a 1", "- 1,3"), ("put b 9", "- -"),
            ("text abb", "- 5,6,7"), ("drop a", "1,3,5 -"), ("put a 1", "- 1,3,5"), ("drop ab", "- -"),
            ("drop b", "2,3,4,5,6,7 -"), ("drop a", "1 -"))

    def test_cut(self):
        self.check(
            ("text ab", "- -"), ("cut", "none"), ("put ab 5", "- 2"), ("cut", "ab"), ("put a 1", "- 1"), ("cut", "ab"),
            ("put b 1", "- -"), ("cut", "a b"), ("text a", "- 3"), ("cut", "a b a"), ("text c", "- -"), ("cut", "none"))

    def test_count(self):
        self.check(
            ("put a 1", "- -"), ("put aa 1", "- -"), ("count", "1"), ("text aaa", "- 1,2,3"), ("count", "3"),
            ("text aa", "- 4,5"), ("count", "8"), ("drop a", "1,3,5 -"), ("count", "0"))

    def test_best(self):
        self.check(
            ("text aab", "- -"), ("best fewest", "none"), ("best heaviest", "none"), ("put a 3", "- 1,2"),
            ("put b -20", "- 3"), ("put ab -9", "- -"), ("put aab -30", "- -"), ("best fewest", "-1 aab"),
            ("best heaviest", "-6 a ab"), ("put b 1", "- -"), ("best heaviest", "7 a a b"), ("drop b", "- -"),
            ("drop ab", "- -"), ("best heaviest", "-30 aab"), ("put aab 0", "- -"), ("best heaviest", "0 aab"))

    def test_bar(self):
        self.check(
            ("bar", "none"), ("text abc", "- -"), ("bar", "0"), ("put ab 1", "- 2"), ("bar", "0 2"), ("put a 1", "- 1"),
            ("bar", "0 1 2"), ("put bc 1", "- 3"), ("bar", "none"))

    def test_book(self):
        self.check(
            ("book", "-"), ("put b 0", "- -"), ("book", "b=0"), ("put ab -7", "- -"), ("book", "ab=-7 b=0"),
            ("put b 12", "- -"), ("book", "ab=-7 b=12"), ("drop ab", "- -"), ("drop b", "- -"), ("book", "-"))

    def test_plain(self):
        self.check(
            ("plain", "yes"), ("put a 1", "- -"), ("put ab 1", "- -"), ("plain", "yes"), ("put b 1", "- -"),
            ("plain", "ab"), ("drop ab", "- -"), ("plain", "yes"), ("put aaa 1", "- -"), ("plain", "aaa"))

    def test_weights(self):
        for weight in ["0", "1", "-1", "9", "10", "-10", "100", "123456789", "-123456789", "999999999", "-999999999"]:
            self.check(("put a " + weight, "- -"), ("book", "a=" + weight), ("text aa", "- 1,2"))
            desk = desk_of("put a " + weight, "text aa")
            self.assertEqual(desk.say("best heaviest"), f"{2 * int(weight)} a a")

    def test_words_of_one_and_of_twelve_letters(self):
        self.check(
            ("put z 1", "- -"), ("put abcdefghijkl 2", "- -"), ("text abcdefghijklz", "- 12,13"),
            ("cut", "abcdefghijkl z"), ("drop abcdefghijkl", "12,13 -"))

    def test_letters_of_more_than_twelve(self):
        self.check(("put a 1", "- -"), ("text " + "a" * 50, "- " + ",".join(str(place) for place in range(1, 51))))

    def test_names_of_rows_are_words_too(self):
        self.check(
            ("put put 1", "- -"), ("put cut 2", "- -"), ("text putcut", "- 3,6"), ("cut", "put cut"),
            ("drop cut", "6 -"), ("put none 3", "- -"), ("text none", "- -"), ("bar", "0 3"))

    def test_texts_are_told(self):
        desk = desk_of("put a 1", "text a")
        for row in ASKED + ["put b 1", "text b", "drop b"]:
            self.assertIsInstance(desk.say(row), str)

    def test_say_stands_in_the_class(self):
        self.assertIn("say", vars(Desk))


class RefusedTest(unittest.TestCase):
    def check(self, rows, refusal):
        desk = desk_of("put a 1", "put ab 5", "put b -2", "text aba", "text b")
        before = all_told(desk)
        for row in rows:
            with self.subTest(row=row):
                with self.assertRaises(refusal):
                    desk.say(row)
                self.assertEqual(all_told(desk), before)
        self.assertEqual([desk.say("drop b"), desk.say("drop a"), desk.say("drop ab")], ["- -", "1,3 -", "2,4 -"])

    def test_what_is_no_row(self):
        self.check(NO_ROWS, NoRow)

    def test_other_kinds(self):
        self.check(OTHER_KINDS, NoRow)

    def test_a_list_that_holds_itself(self):
        ring = []
        ring.append(ring)
        self.check([ring], NoRow)

    def test_a_word_to_drop_that_is_not_there(self):
        self.check(["drop c", "drop aa", "drop ba", "drop abab", "drop abcdefghijkl"], NoWord)

    def test_of_a_new_desk(self):
        desk = Desk()
        for row in NO_ROWS + OTHER_KINDS:
            with self.assertRaises(NoRow):
                desk.say(row)
        with self.assertRaises(NoWord):
            desk.say("drop a")
        self.assertEqual(all_told(desk), all_told(Desk()))

    def test_dropped_twice(self):
        desk = desk_of("put a 1", "text a")
        self.assertEqual(desk.say("drop a"), "1 -")
        with self.assertRaises(NoWord):
            desk.say("drop a")
        self.assertEqual(desk.say("put a 1"), "- 1")

    def test_rows_with_one_sign_changed(self):
        """A row with a sign put in, left out or changed is one that may be said, or it is refused and changes nothing."""
        draw = random.Random(6)
        desk = desk_of("put a 1", "put ab 5", "text aba")
        for turn in range(1500):
            row = draw.choice(["put ab -5", "put a 0", "drop ab", "text ab"] + ASKED)
            at = draw.randrange(len(row) + 1)
            row = row[:at] + draw.choice(["", "a", " ", "0", "-", "A", "\n"]) + row[at + draw.randint(0, 1):]
            desk = desk_of("put a 1", "put ab 5", "text aba")
            before = all_told(desk)
            try:
                desk.say(row)
            except (NoRow, NoWord):
                self.assertEqual(all_told(desk), before, row)
            else:
                self.assertRegex(row, PATTERN)


PATTERN = (
    r"\A(put [a-z]{1,12} (0|-?[1-9][0-9]{0,8})|drop [a-z]{1,12}|text [a-z]+"
    r"|cut|count|best (fewest|heaviest)|bar|book|plain)\Z")


class PatternTest(unittest.TestCase):
    def test_what_is_no_row_fits_no_pattern(self):
        for row in NO_ROWS:
            self.assertNotRegex(row, PATTERN)


def slow_answers(book, text):
    """The answers to ASKED, from what the other modules tell."""
    cut, bar, twice = first_cut(book, text), least_bar(book, text), cut_twice(book)
    bests = [best_cut(book, text, way) for way in ["fewest", "heaviest"]]
    return [
        "none" if cut is None else " ".join(cut) if cut else "-",
        str(cut_count(book, text)),
        *["none" if best is None else " ".join([str(best[0]), *best[1]]) for best in bests],
        "none" if bar is None else " ".join(str(place) for place in bar),
        show_book(book),
        "yes" if twice is None else twice[0],
    ]


def slow_places(places):
    return ",".join(str(place) for place in places) if places else "-"


class DrawnTest(unittest.TestCase):
    WORDS = naive.small_texts(3)[1:]

    def step(self, draw, desk, weights, text):
        """Say one drawn row that changes the desk; tell the text behind it."""
        before = naive.naive_led(sorted(weights.items()), text)
        kind = draw.choice(["put", "put", "drop", "text"])
        if kind == "text":
            letters = "".join(draw.choice("ab") for sign in range(draw.randint(1, 4)))
            row, text = "text " + letters, text + letters
        elif kind == "drop" and weights:
            word = draw.choice(sorted(weights))
            row = "drop " + word
            del weights[word]
        else:
            word, weight = draw.choice(self.WORDS), draw.choice([0, 1, -1, 77, -77, 999999999, -999999999])
            row = f"put {word} {weight}"
            weights[word] = weight
        gone, come = naive.naive_change(before, naive.naive_led(sorted(weights.items()), text))
        self.assertEqual(desk.say(row), slow_places(gone) + " " + slow_places(come), row)
        return text

    def test_many_rows(self):
        for seed in range(30):
            draw = random.Random(seed)
            desk, weights, text = Desk(), {}, ""
            while len(text) < 47:
                text = self.step(draw, desk, weights, text)
                book = sorted(weights.items())
                self.assertEqual(all_told(desk), slow_answers(book, text))
                self.assertEqual(read_book(desk.say("book")), book)

    def test_two_desks_know_nothing_of_one_another(self):
        draw = random.Random(9)
        desks = [[Desk(), {}, ""], [Desk(), {}, ""]]
        for turn in range(60):
            at = draw.randrange(2)
            desks[at][2] = self.step(draw, *desks[at])
            for desk, weights, text in desks:
                self.assertEqual(all_told(desk), slow_answers(sorted(weights.items()), text))

    def test_all_small_books_and_texts(self):
        for book in naive.small_books():
            for text in naive.small_texts(3)[1:]:
                desk = desk_of(*[f"put {word} {weight}" for word, weight in book], "text " + text)
                self.assertEqual(all_told(desk), slow_answers(book, text))


class BoundsTest(unittest.TestCase):
    def check_wide(self):
        words = naive.small_texts(5)[1:61]
        desk = desk_of(*[f"put {word} {at * 12345678}" for at, word in enumerate(words)], "text " + "abbab" * 10)
        book = sorted((word, at * 12345678) for at, word in enumerate(words))
        self.assertEqual(desk.say("book"), show_book(book))
        self.assertEqual(all_told(desk), slow_answers(book, "abbab" * 10))

    def test_sixty_words_and_fifty_letters(self):
        self.check_wide()

    def test_no_deep_recursion(self):
        naive.without_depth(self.check_wide)

    def test_plain_of_eighty_signs(self):
        # Words that begin with one another, and whose rests lead on to one another.
        words = ["ab" + "b" * many for many in range(11)]
        desk = desk_of(*[f"put {word} 1" for word in words])
        self.assertEqual(sum(len(word) for word in words), 77)
        self.assertEqual(desk.say("plain"), "yes")
        desk.say("put bbb 1")
        self.assertEqual(desk.say("plain"), "abbbb")


class KeepTest(unittest.TestCase):
    def test_the_same_asked_again(self):
        desk = desk_of("put a 1", "put ab 5", "put b -2", "text abab")
        self.assertEqual(all_told(desk), all_told(desk))
        self.assertEqual(all_told(desk), all_told(desk_of("text abab", "put b -2", "put ab 5", "put a 1")))


if __name__ == "__main__":
    unittest.main()
