"""Point 15: plays, and steps as text."""

import random
import unittest

from chance import some_step
from helperwire.errors import BadText, WireError
from helperwire.plays import played, read, written
from helperwire.wire import Wire
from support import put

SHEET = "ab cd\nab"
TEXTS = {"": "~.", " ": "~_", "\n": "~/", "~": "~~", "~.": "~~.", "~_": "~~_", "~/": "~~/", "~~": "~~~~", "a b": "a~_b",
         " ~\n": "~_~~~/", "~ ": "~~~_", ".": ".", "_": "_", "/": "/", "a.b_c/d": "a.b_c/d", "0": "0", "-1": "-1",
         "\n\n": "~/~/", "ask 3 find a": "ask~_3~_find~_a", "\\\"'#": "\\\"'#"}
# One of each kind; the rows behind it are what is made of it by little changes, none of them a step.
ROWS = {
    "open 3 ab": ("open", "open 3", "open ab", "open 3 ab cd", "open 03 ab", "open 1000 ab", "open 3  ab", "open  3 ab",
                  "open 3 ab ", " open 3 ab", "open 3 ", "open 3 a~", "open 3 ~a", "open 3 ~a~_", "open 3 a~.",
                  "open 3 ~.a", "open 3 ~.~.", "open 3 ~", "open 3 ~~~", "open 3 ~-", "open -3 ab", "open 3. ab",
                  "open three ab", "Open 3 ab", "opens 3 ab", "open 3\tab", "open ~3 ab", "open 3 3 ab"),
    "edit 3 0 1 0 2 ab": ("edit", "edit 3 0 1 0 2", "edit 0 1 0 2 ab", "edit 3 0 1 0 ab", "edit 3 0 1 0 2 ab cd",
                          "edit 3 0 1 0 2 ab 0", "edit 3 0 1 0 2 ab 0 1 0 2", "edit 3 0 1 0 2 ab 0 1 0 ab",
                          "edit 3 0 1 0 2 ab 0 1 0 2 ab cd", "edit 03 0 1 0 2 ab", "edit 3 00 1 0 2 ab",
                          "edit 3 0 01 0 2 ab", "edit 3 0 1 00 2 ab", "edit 3 0 1 0 02 ab", "edit 1000 0 1 0 2 ab",
                          "edit 3 1000 1 0 2 ab", "edit 3 0 1000 0 2 ab", "edit 3 0 1 1000 2 ab",
                          "edit 3 0 1 0 1000 ab", "edit 3  0 1 0 2 ab", "edit 3 0 1 0 2  ab", "edit 3 0 1 0 2 ",
                          "edit 3 0 1 0 2 ~a", "edit 3 0 1 0 2 a~", "edit 3 0 1 0 2 ab 0 1 0 2 ~x",
                          "edit 3 0 1 0 2 ab 0 1 0 02 x", "edit 3 -1 1 0 2 ab", "edit 3 a 1 0 2 ab", "edit 3 ",
                          "edit 3 ~.", "edit ab"),
    "close 3": ("close", "close 3 4", "close 03", "close 1000", "close  3", "close 3 ", " close 3", "close -3", "close a",
                "close ~.", "closed 3", "close ~3"),
    "ask 3 find ab": ("ask", "ask 3", "ask 3 find", "ask find ab", "ask 3 find ab cd", "ask 3 find 0 1", "ask 03 find ab",
                      "ask 1000 find ab", "ask 3  find ab", "ask 3 find  ab", "ask 3 find ", "ask 3 find ~a",
                      "ask 3 find ab~", "ask 3 look ab", "ask 3 Find ab", "ask -3 find ab", "ask a find ab", "ask 3 ~. ab",
                      "ask 3 ab"),
    "ask 3 rows ab": ("ask 3 rows", "ask rows ab", "ask 3 rows ab cd", "ask 3 rows 0 1", "ask 00 rows ab",
                      "ask 1000 rows ab", "ask 3 rows  ab", "ask 3 rows ~-", "ask 3 row ab"),
    "ask 3 word 0 1": ("ask 3 word", "ask 3 word 0", "ask word 0 1", "ask 3 word 0 1 2", "ask 3 word 0 1 ab",
                       "ask 3 word 00 1", "ask 3 word 0 01", "ask 3 word 1000 1", "ask 3 word 0 1000", "ask 3 word ab",
                       "ask 3 word 0 ab", "ask 3 word  0 1", "ask 3 word 0  1", "ask 3 word 0 1 ", "ask 3 word 0 -1",
                       "ask 3 word 0 ~.", "ask 3 words 0 1"),
    "ask 3 rename 0 1 new": ("ask 3 rename", "ask 3 rename 0 1", "ask 3 rename 0 new", "ask 3 rename new",
                             "ask rename 0 1 new", "ask 3 rename 0 1 new old", "ask 3 rename 0 1 2 new",
                             "ask 3 rename 00 1 new", "ask 3 rename 0 01 new", "ask 3 rename 1000 1 new",
                             "ask 3 rename 0 1000 new", "ask 3 rename 0 1  new", "ask 3 rename 0 1 ",
                             "ask 3 rename 0 1 ~n", "ask 3 rename 0 1 n~", "ask 3 rename new 0 1"),
    "off 12": ("off", "off 1 2", "off 012", "off 1000", "off  12", "off 12 ", "off -1", "off a", "off 1a", "offs 12"),
    "take 0": ("take", "take 0 0", "take 00", "take 1000", "take  0", "take 0 ", "take -0", "take a", "take +1"),
    "carry": ("carry 0", "carry ", " carry", "Carry", "carry carry", "carr", "carry ~."),
    "bring": ("bring 0", "bring ", " bring", "BRING", "brings"),
    "work 999": ("work", "work 9 9", "work 0999", "work 1000", "work 9999", "work  999", "work 999 ", "work -1", "work a",
                 "work 1_0", "work \u0661", "work \xb2"),
    "fall": ("fall 0", "fall ", " fall", "falls"),
    "anew": ("anew 0", "anew ", " anew", "a new"),
    "settle": ("settle 0", "settle ", " settle", "settled"),
}
STEPS = {
    "open 3 ab": ("open", 3, "ab"), "edit 3 0 1 0 2 ab": ("edit", 3, (((0, 1), (0, 2), "ab"),)), "close 3": ("close", 3),
    "ask 3 find ab": ("ask", 3, ("find", "ab")), "ask 3 rows ab": ("ask", 3, ("rows", "ab")),
    "ask 3 word 0 1": ("ask", 3, ("word", (0, 1))), "ask 3 rename 0 1 new": ("ask", 3, ("rename", (0, 1), "new")),
    "off 12": ("off", 12), "take 0": ("take", 0), "carry": ("carry",), "bring": ("bring",), "work 999": ("work", 999),
    "fall": ("fall",), "anew": ("anew",), "settle": ("settle",),
}


class Played(unittest.TestCase):
    def test_each_kind(self):
        steps = [("open", 3, SHEET), ("ask", 3, ("find", "ab")), ("ask", 3, ("rename", (0, 0), "x")), ("carry",),
                 ("carry",), ("carry",), ("carry",), ("bring",), ("work", 1), ("bring",), ("take", 1),
                 ("edit", 3, (put("y"),)), ("off", 0), ("settle",), ("fall",), ("ask", 3, ("rows", "x")), ("anew",),
                 ("settle",), ("close", 3)]
        told, wire = played(steps)
        self.assertEqual(told, [None, 0, 1, True, True, True, False, False, None, True, None, None, None, None, None, 2,
                                None, None, None])
        self.assertIs(type(told), list)
        self.assertIs(type(wire), Wire)
        self.assertEqual(wire.files(), [])
        self.assertEqual(wire.shown(), [(0, 3, "off", None), (1, 3, "old", [((1, 0), (1, 2), "x"), ((0, 0), (0, 2), "x")]),
                                        (2, 3, "old", [0, 1])])
        self.assertEqual(wire.told()[-3:], [("out", (2, ("ask", 2, 3, ("rows", "x")))),
                                            ("in", (2, ("answer", 2, 3, [0, 1]))), ("out", (2, ("close", 3)))])

    def test_refused_ones(self):
        steps = [("open", 10, ""), ("open", 3, "\t"), ("close", 3), ("edit", 3, ()), ("ask", 3, ("find", "a")),
                 ("off", 0), ("take", 0), ("work", 0), ("work", -1), ("anew",), ("open", 3, "a"), ("open", 3, "a"),
                 ("edit", 3, ((),)), ("ask", 3, ()), ("ask", 3, ("word", (1, 0))), ("fall",), ("fall",), ("work", 0),
                 ("settle",), ("carry",), ("bring",), ("anew",), ("anew",)]
        told, wire = played(steps)
        self.assertEqual(told, ["no"] * 10 + [None] + ["no"] * 4 + [None, "no", "no", "no", False, False, None, "no"])
        self.assertEqual(wire.files(), [(3, 1, "a")])

    def test_no_steps(self):
        told, wire = played([])
        self.assertEqual((told, wire.files(), wire.shown(), wire.told()), ([], [], [], []))

    def test_each_play_has_its_own_wire(self):
        steps = [("open", 3, SHEET)]
        first, second = played(steps), played(steps)
        self.assertEqual((first[0], second[0]), ([None], [None]))
        first[1].do(("close", 3))
        self.assertEqual(second[1].files(), [(3, 1, SHEET)])


class Written(unittest.TestCase):
    def assert_written(self, steps, text):
        self.assertEqual(written(steps), text)
        self.assertEqual(read(text), steps)

    def test_no_steps(self):
        self.assert_written([], "")

    def test_each_kind(self):
        for text, step in STEPS.items():
            self.assert_written([step], text)
            self.assert_written([step, step], text + "\n" + text)
        self.assert_written(list(STEPS.values()), "\n".join(STEPS))

    def test_the_papers(self):
        self.assert_written([("edit", 3, (((0, 1), (0, 2), "ab"), ((1, 0), (1, 4), "")))],
                            "edit 3 0 1 0 2 ab 1 0 1 4 ~.")
        self.assert_written([("ask", 3, ("rename", (0, 1), "new"))], "ask 3 rename 0 1 new")

    def test_texts(self):
        for text, word in TEXTS.items():
            self.assert_written([("open", 0, text)], "open 0 " + word)
            self.assert_written([("edit", 0, (put(text), put(text)))], f"edit 0 0 0 0 0 {word} 0 0 0 0 {word}")
            self.assert_written([("ask", 0, ("find", text))], "ask 0 find " + word)
            self.assert_written([("ask", 0, ("rows", text))], "ask 0 rows " + word)
            self.assert_written([("ask", 0, ("rename", (0, 0), text))], "ask 0 rename 0 0 " + word)

    def test_edits(self):
        self.assert_written([("edit", 3, ())], "edit 3")
        for many in range(1, 10):
            self.assert_written([("edit", 3, (put("x", (1, 2)),) * many)], "edit 3" + " 1 2 1 2 x" * many)

    def test_numbers(self):
        for number in (0, 1, 9, 10, 11, 99, 100, 101, 900, 999):
            self.assert_written([("work", number)], f"work {number}")
            self.assert_written([("open", number, "")], f"open {number} ~.")
            self.assert_written([("ask", number, ("word", (number, number)))], f"ask {number} word {number} {number}")

    def test_steps_that_a_wire_refuses(self):
        for step in (("open", 10, "\t"), ("open", 3, "a" * 201), ("ask", 3, ("find", "")), ("ask", 3, ("rows", "A b")),
                     ("edit", 3, (put("a" * 41),)), ("edit", 3, (((9, 9), (0, 0), "\t"),)), ("off", 999)):
            self.assertEqual(read(written([step])), [step])
            self.assertEqual(played([step])[0], ["no"])

    def test_numbers_beyond_are_written_and_not_read(self):
        for number in (-1, 1000):
            with self.assertRaises(BadText):
                read(written([("work", number)]))

    def test_many_steps_by_chance(self):
        chance = random.Random(15)
        signs = " \n~._/aZ09"
        for _ in range(100):
            wire = played([("open", 1, "ab\nab"), ("ask", 1, ("find", "a"))])[1]
            steps = [some_step(chance, wire) for _ in range(20)]
            steps.append(("open", 0, "".join(chance.choice(signs) for _ in range(chance.randint(0, 9)))))
            text = written(steps)
            self.assertEqual(read(text), steps)
            self.assertEqual(written(read(text)), text)
            self.assertEqual(text.count("\n"), len(steps) - 1)


class Read(unittest.TestCase):
    def assert_bad(self, text, row):
        with self.assertRaises(BadText) as caught:
            read(text)
        self.assertEqual(caught.exception.row, row, repr(text))
        self.assertIsInstance(caught.exception, WireError)
        self.assertIsInstance(caught.exception, ValueError)

    def test_rows_that_are_no_step(self):
        for text, others in ROWS.items():
            self.assertEqual(read(text), [STEPS[text]])
            for other in others:
                with self.subTest(other):
                    self.assert_bad(other, 0)
                    self.assert_bad(text + "\n" + other + "\n" + text, 1)

    def test_the_first_row_that_is_no_step(self):
        rows = list(STEPS)
        for number in range(len(rows)):
            self.assert_bad("\n".join(rows[:number] + ["no"] + rows[number:] + ["no"]), number)
            self.assert_bad("\n".join(rows[:number] + [""] + rows[number:]), number)

    def test_empty_rows(self):
        self.assert_bad("\n", 0)
        self.assert_bad("\ncarry", 0)
        self.assert_bad("carry\n", 1)
        self.assert_bad("carry\n\ncarry", 1)
        self.assert_bad(" ", 0)
        self.assert_bad("carry\n ", 1)

    def test_other_line_ends(self):
        for sign in ("\r", "\r\n", "\v", "\x85", "\u2028"):
            self.assert_bad("carry" + sign + "carry", 0)

    def test_kinds(self):
        for text, step in STEPS.items():
            told = read(text)
            self.assertIs(type(told), list)
            self.assertIs(type(told[0]), tuple)
            self.assertEqual(repr(told[0]), repr(step))


if __name__ == "__main__":
    unittest.main()
