"""Point 5: asks and what is told of them."""

import random
import re
import unittest

from helperwire.asks import answer_of, helper_answer
from helperwire.errors import BadAsk, BadPlace, BadSheet, WireError
from helperwire.sheets import edited, number_of, place_of

SHEET = "ab abab\n\nxab ab"

NO_ASKS = (
    (), ("find",), ("rows",), ("word",), ("rename",), ("find", "ab", "ab"), ("rows", "ab", 1),
    ("word", (0, 0), "ab"), ("rename", (0, 0)), ("rename", (0, 0), "ab", "ab"),
    ("look", "ab"), ("look", (0, 0), "ab"), (0, (0, 0), "ab"), ("find", (0, 0), "ab"), ("look", (0, 0)), ("Find", "ab"), ("", "ab"), (0, "ab"), ((), "ab"), ("ab",), (1, 2), ((0, 0), (0, 0)),
    ("find", ""), ("find", "abcdefghi"), ("find", "Ab"), ("find", "a b"), ("find", "a1"), ("find", "a\n"),
    ("find", "caf\xe9"), ("find", "`"), ("find", "{"), ("find", 1), ("find", ()), ("find", ("ab",)), ("find", (0, 0)),
    ("rows", ""), ("rows", "abcdefghi"), ("rows", "AB"), ("rows", 0), ("rows", (0, 0)),
    ("word", "ab"), ("word", 0), ("word", ()), ("word", (0,)), ("word", (0, 0, 0)), ("word", ("a", 0)),
    ("word", (0, "a")), ("word", ((0, 0), 0)), ("word", ("a", "b")),
    ("rename", (0, 0), ""), ("rename", (0, 0), "abcdefghi"), ("rename", (0, 0), "A"), ("rename", (0, 0), 1),
    ("rename", (0, 0), ()), ("rename", "ab", "ab"), ("rename", "ab", (0, 0)), ("rename", (0,), "ab"),
    ("rename", (0, 0, 0), "ab"), ("rename", ((0, 0), 0), "ab"), ("rename", 0, "ab"), ("find", "a", (0, 0)),
)
NO_PLACES = ((0, 8), (0, 99), (1, 1), (3, 0), (99, 0), (2, 7), (-1, 0), (0, -1), (10 ** 30, 0))


def runs(sheet):
    return [match.span() for match in re.finditer("[a-z]+", sheet)]


class Find(unittest.TestCase):
    def test_all_places_rising(self):
        self.assertEqual(answer_of(SHEET, ("find", "ab")), [(0, 0), (0, 3), (0, 5), (2, 1), (2, 4)])

    def test_within_others(self):
        self.assertEqual(answer_of("aaaa\naa", ("find", "aa")), [(0, 0), (0, 1), (0, 2), (1, 0)])
        self.assertEqual(answer_of("ababa", ("find", "aba")), [(0, 0), (0, 2)])

    def test_none_stands(self):
        self.assertEqual(answer_of(SHEET, ("find", "q")), [])
        self.assertEqual(answer_of("", ("find", "a")), [])
        self.assertEqual(answer_of("a\nb A", ("find", "ab")), [])

    def test_longest_word_and_ends_of_the_sheet(self):
        self.assertEqual(answer_of("abcdefgh\nabcdefgh", ("find", "abcdefgh")), [(0, 0), (1, 0)])
        self.assertEqual(answer_of("x" * 200, ("find", "x")), [(0, column) for column in range(200)])
        self.assertEqual(answer_of("az", ("find", "z")), [(0, 1)])


class Rows(unittest.TestCase):
    def test_numbers_of_rows(self):
        self.assertEqual(answer_of(SHEET, ("rows", "ab")), [0, 2])
        self.assertEqual(answer_of(SHEET, ("rows", "xab")), [2])
        self.assertEqual(answer_of("a\n" * 100, ("rows", "a")), list(range(100)))

    def test_none_stands(self):
        self.assertEqual(answer_of(SHEET, ("rows", "ba" * 2)), [])
        self.assertEqual(answer_of("a\nb", ("rows", "ab")), [])


class Word(unittest.TestCase):
    def test_within_at_the_begin_and_at_the_end(self):
        for column in range(3, 8):
            self.assertEqual(answer_of(SHEET, ("word", (0, column))), ((0, 3), (0, 7)))
        for column in range(3):
            self.assertEqual(answer_of(SHEET, ("word", (0, column))), ((0, 0), (0, 2)))

    def test_none(self):
        self.assertIsNone(answer_of(SHEET, ("word", (1, 0))))
        self.assertIsNone(answer_of("a  b", ("word", (0, 2))))
        self.assertIsNone(answer_of("", ("word", (0, 0))))

    def test_other_signs_are_no_letters(self):
        self.assertIsNone(answer_of("1_AZ`{", ("word", (0, 2))))
        self.assertEqual(answer_of("1az2", ("word", (0, 1))), ((0, 1), (0, 3)))

    def test_runs_end_with_their_rows(self):
        self.assertEqual(answer_of("ab\ncd", ("word", (0, 2))), ((0, 0), (0, 2)))
        self.assertEqual(answer_of("ab\ncd", ("word", (1, 0))), ((1, 0), (1, 2)))

    def test_longer_than_words(self):
        self.assertEqual(answer_of("x" * 200, ("word", (0, 77))), ((0, 0), (0, 200)))

    def test_each_place(self):
        chance = random.Random(8)
        for _ in range(60):
            sheet = "".join(chance.choice("aabz Z1\n") for _ in range(30))
            for at in range(31):
                here = [span for span in runs(sheet) if span[0] <= at <= span[1]]
                wanted = tuple(place_of(sheet, end) for end in here[0]) if here else None
                self.assertEqual(answer_of(sheet, ("word", place_of(sheet, at))), wanted)


class Rename(unittest.TestCase):
    def test_the_last_one_first(self):
        told = answer_of(SHEET, ("rename", (0, 1), "new"))
        self.assertEqual(told, [((2, 4), (2, 6), "new"), ((0, 0), (0, 2), "new")])
        self.assertEqual(edited(SHEET, told), "new abab\n\nxab new")

    def test_at_begin_and_end(self):
        for place in ((0, 0), (0, 2), (2, 4), (2, 5), (2, 6)):
            self.assertEqual(answer_of(SHEET, ("rename", place, "q")),
                             [((2, 4), (2, 6), "q"), ((0, 0), (0, 2), "q")])

    def test_only_whole_runs(self):
        self.assertEqual(answer_of(SHEET, ("rename", (2, 1), "q")), [((2, 0), (2, 3), "q")])

    def test_no_run(self):
        self.assertIsNone(answer_of(SHEET, ("rename", (1, 0), "q")))
        self.assertIsNone(answer_of("", ("rename", (0, 0), "q")))

    def test_the_same_word(self):
        self.assertEqual(answer_of("ab", ("rename", (0, 0), "ab")), [((0, 0), (0, 2), "ab")])

    def test_eight_and_more(self):
        told = answer_of("a " * 8, ("rename", (0, 0), "b"))
        self.assertEqual(told, [((0, at), (0, at + 1), "b") for at in range(14, -1, -2)])
        self.assertIsNone(answer_of("a " * 9, ("rename", (0, 0), "b")))
        self.assertIsNone(answer_of("a " * 100, ("rename", (0, 0), "b")))
        self.assertIsNotNone(answer_of("a " * 9 + "c", ("rename", (0, 18), "b")))

    def test_two_hundred_signs_and_more(self):
        self.assertEqual(len(answer_of("a." * 4 + "." * 182, ("rename", (0, 0), "bbb"))), 4)
        self.assertEqual(len(answer_of("a." * 4 + "." * 184, ("rename", (0, 0), "bbb"))), 4)
        self.assertIsNone(answer_of("a." * 4 + "." * 185, ("rename", (0, 0), "bbb")))
        self.assertEqual(answer_of("a" + "." * 199, ("rename", (0, 0), "b")), [((0, 0), (0, 1), "b")])
        self.assertIsNone(answer_of("a" + "." * 199, ("rename", (0, 0), "bb")))
        self.assertEqual(answer_of("x" * 200, ("rename", (0, 9), "abcdefgh")), [((0, 0), (0, 200), "abcdefgh")])

    def test_by_chance(self):
        chance = random.Random(9)
        for _ in range(200):
            sheet = "".join(chance.choice("ab \n") for _ in range(chance.randrange(40)))
            at = chance.randrange(len(sheet) + 1)
            told = answer_of(sheet, ("rename", place_of(sheet, at), "new"))
            here = [sheet[first:last] for first, last in runs(sheet) if first <= at <= last]
            alike = [span for span in runs(sheet) if here and sheet[slice(*span)] == here[0]]
            if not here or len(alike) > 8:
                self.assertIsNone(told)
                continue
            spans = [(number_of(sheet, begin), number_of(sheet, end)) for begin, end, put in told]
            self.assertEqual(spans, alike[::-1])
            self.assertEqual(edited(sheet, told), re.sub("[a-z]+", lambda m: "new" if m[0] == here[0] else m[0], sheet))


class Refusals(unittest.TestCase):
    def test_no_asks(self):
        for want in NO_ASKS:
            with self.subTest(want), self.assertRaises(BadAsk):
                answer_of(SHEET, want)

    def test_no_places(self):
        for place in NO_PLACES:
            for want in (("word", place), ("rename", place, "ab")):
                with self.subTest(want), self.assertRaises(BadPlace):
                    answer_of(SHEET, want)

    def test_what_is_no_ask_is_refused_as_such_whatever_its_place(self):
        with self.assertRaises(BadAsk):
            answer_of(SHEET, ("rename", (99, 99), "A"))
        with self.assertRaises(BadAsk):
            answer_of(SHEET, ("word", (99, 99), "a"))

    def test_the_sheet_is_refused_first(self):
        for want in (("find", "a"), (), ("word", (99, 99))):
            with self.assertRaises(BadSheet):
                answer_of("x" * 201, want)
            with self.assertRaises(BadSheet):
                answer_of("\t", want)

    def test_refusals_are_wire_errors(self):
        for want in ((), ("word", (99, 99))):
            with self.assertRaises(WireError):
                answer_of(SHEET, want)

    def test_all_words_can_be(self):
        for word in ("a", "z", "abcdefgh", "zzzzzzzz"):
            self.assertEqual(answer_of("", ("find", word)), [])


class WhatIsTold(unittest.TestCase):
    def test_kinds(self):
        kinds = [type(answer_of(SHEET, want)) for want in (("find", "ab"), ("rows", "ab"), ("word", (0, 0)),
                                                           ("rename", (0, 0), "q"))]
        self.assertEqual(kinds, [list, list, tuple, list])

    def test_may_be_changed_and_the_same_is_told_again(self):
        for want in (("find", "ab"), ("rows", "ab"), ("rename", (0, 0), "q")):
            told = answer_of(SHEET, want)
            was = list(told)
            told.append("more")
            told[0] = None
            self.assertEqual(answer_of(SHEET, want), was)

    def test_a_helper_tells_none_of_a_place_that_the_sheet_hasnt(self):
        for place in NO_PLACES:
            self.assertIsNone(helper_answer(SHEET, ("word", place)))
            self.assertIsNone(helper_answer(SHEET, ("rename", place, "q")))
        self.assertEqual(helper_answer(SHEET, ("word", (0, 0))), ((0, 0), (0, 2)))
        self.assertEqual(helper_answer(SHEET, ("rows", "xab")), [2])


if __name__ == "__main__":
    unittest.main()
