"""The interface of helperwire.errors, and that each refusal is a WireError and a ValueError."""

import unittest

from helperwire import errors

PLAIN = ("BadSheet", "BadPlace", "BadFile", "Opened", "NoFile", "TooMany", "BadAsk", "NoAsk", "Old", "Fallen",
         "NotFallen", "BadLetter")


class Errors(unittest.TestCase):
    def test_wire_error_is_a_value_error(self):
        self.assertEqual(errors.WireError.__bases__, (ValueError,))

    def test_each_class_is_a_wire_error_and_no_other_refusal(self):
        for name in PLAIN + ("BadEdit", "BadText"):
            with self.subTest(name):
                self.assertEqual(getattr(errors, name).__bases__, (errors.WireError,))

    def test_plain_ones_carry_words(self):
        for name in PLAIN:
            with self.subTest(name):
                self.assertEqual(str(getattr(errors, name)("why")), "why")

    def test_bad_edit_has_its_number(self):
        for number in range(9):
            self.assertEqual(errors.BadEdit(number).number, number)

    def test_bad_text_has_its_row(self):
        for row in (0, 1, 77):
            self.assertEqual(errors.BadText(row).row, row)


if __name__ == "__main__":
    unittest.main()
