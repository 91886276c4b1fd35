"""Point 2: sheets and places."""

import unittest

from helperwire.errors import BadPlace, BadSheet, WireError
from helperwire.sheets import back, edited, moved, number_of, place_of, together

FULL = "\n".join(["x" * 19] * 10)
SHEETS = ("", "a", "\n", "\n\n\n", "ab\ncd", "ab\n", "\nab", "a\n\n\nb", " ~\n !", "x" * 200, "\n" * 200, FULL + "\n")
NO_SHEETS = ("x" * 201, "\n" * 201, "x" * 500, "a\tb", "a\rb", "\x00", "\x1f", "\x7f", "caf\xe9", "\u2028", "\x0b")
NO_PLACES = ((), (0,), (0, 0, 0), (-1, 0), (0, -1), (-1, -1), (0, 3), (0, 4), (1, 3), (2, 0), (2, 2), (0, 999),
             (999, 0), (10 ** 30, 0), (0, 10 ** 30), ((0, 0), 0), (0, (0,)), ((0, 0),), ((0, 0), (0, 0)), ((), ()))
NO_NUMBERS = (-1, -2, -6, -99, 6, 7, 999, 10 ** 30, -10 ** 30)


def all_places(sheet):
    """Each place of a sheet with its number, counted sign by sign."""
    row = column = 0
    pairs = [((0, 0), 0)]
    for number, sign in enumerate(sheet, 1):
        row, column = (row + 1, 0) if sign == "\n" else (row, column + 1)
        pairs.append(((row, column), number))
    return pairs


class Places(unittest.TestCase):
    def test_some_by_hand(self):
        self.assertEqual(number_of("ab\ncd", (0, 0)), 0)
        self.assertEqual(number_of("ab\ncd", (0, 2)), 2)
        self.assertEqual(number_of("ab\ncd", (1, 0)), 3)
        self.assertEqual(number_of("ab\ncd", (1, 2)), 5)
        self.assertEqual(place_of("ab\ncd", 2), (0, 2))
        self.assertEqual(place_of("ab\ncd", 3), (1, 0))
        self.assertEqual(place_of("ab\n", 3), (1, 0))
        self.assertEqual(number_of("ab\n", (1, 0)), 3)
        self.assertEqual(place_of("", 0), (0, 0))
        self.assertEqual(place_of("\n" * 200, 200), (200, 0))
        self.assertEqual(number_of("x" * 200, (0, 200)), 200)

    def test_each_place_and_each_number(self):
        for sheet in SHEETS:
            for place, number in all_places(sheet):
                self.assertEqual(number_of(sheet, place), number, (sheet, place))
                self.assertEqual(place_of(sheet, number), place, (sheet, number))

    def test_kinds_of_what_is_told(self):
        self.assertIs(type(number_of("ab", (0, 1))), int)
        self.assertIs(type(place_of("ab", 1)), tuple)

    def test_each_sign_can_be(self):
        signs = "".join(chr(code) for code in range(32, 127) if code != 37)
        self.assertEqual(number_of(signs, (0, 94)), 94)

    def test_places_that_a_sheet_hasnt(self):
        for place in NO_PLACES:
            with self.subTest(place), self.assertRaises(BadPlace):
                number_of("ab\ncd", place)

    def test_numbers_that_a_sheet_hasnt(self):
        for number in NO_NUMBERS:
            with self.subTest(number), self.assertRaises(BadPlace):
                place_of("ab\ncd", number)

    def test_one_beyond_in_each_sheet(self):
        for sheet in SHEETS:
            for number, row in enumerate(sheet.split("\n")):
                with self.assertRaises(BadPlace):
                    number_of(sheet, (number, len(row) + 1))
            for refused in (lambda: number_of(sheet, (sheet.count("\n") + 1, 0)),
                            lambda: place_of(sheet, len(sheet) + 1)):
                with self.assertRaises(BadPlace):
                    refused()

    def test_true_and_false_are_no_numbers(self):
        with self.assertRaises(BadPlace):
            number_of("ab\ncd", (True, 0))
        with self.assertRaises(BadPlace):
            number_of("ab\ncd", (0, False))
        with self.assertRaises(BadPlace):
            place_of("ab\ncd", True)


class Sheets(unittest.TestCase):
    def test_no_sheets(self):
        calls = (lambda text: number_of(text, (0, 0)), lambda text: place_of(text, 0), lambda text: edited(text, []),
                 lambda text: together(text, []), lambda text: back(text, []),
                 lambda text: moved(text, [], (0, 0)))
        for text in NO_SHEETS:
            for call in calls:
                with self.subTest(text), self.assertRaises(BadSheet):
                    call(text)

    def test_the_sheet_is_refused_ahead_of_the_place(self):
        for text in NO_SHEETS:
            with self.assertRaises(BadSheet):
                number_of(text, (999, 999))
            with self.assertRaises(BadSheet):
                number_of(text, ())
            with self.assertRaises(BadSheet):
                place_of(text, -1)

    def test_refusals_are_wire_errors_and_value_errors(self):
        calls = (lambda: number_of("x" * 201, (0, 0)), lambda: number_of("", (0, 1)), lambda: place_of("", 1),
                 lambda: edited("", [()]))
        for call in calls:
            for kind in (WireError, ValueError):
                with self.assertRaises(kind):
                    call()


if __name__ == "__main__":
    unittest.main()
