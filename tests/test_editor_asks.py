"""Points 7, 8 and 10: the editor's asks, their answers, and what is shown of them."""

import random
import unittest

from helperwire.asks import answer_of
from helperwire.editor import Editor
from helperwire.errors import BadAsk, BadPlace, NoAsk, NoFile, Old, TooMany
from helperwire.sheets import moved
from support import Refusing, put, whole

SHEET = "ab cd\nab"
FIND = ("find", "ab")
FOUND = [(0, 0), (1, 0)]
WORD = ("word", (0, 4))
RUN = ((0, 3), (0, 5))
RENAME = ("rename", (0, 1), "xyz")
RENAMED = [((1, 0), (1, 2), "xyz"), ((0, 0), (0, 2), "xyz")]
ROWS = ("rows", "ab")


def answer(number, sheet_number, told, birth=1):
    return (birth, ("answer", number, sheet_number, told))


class Asking(Refusing):
    """An editor whose file 3 has the sheet."""

    def setUp(self):
        self.editor = Editor()
        self.editor.take_up(3, SHEET)

    def asked(self, *wants):
        return [self.editor.ask(3, want)[0] for want in wants]

    def answered(self, want, told, sheet_number=1, birth=1):
        number = self.editor.ask(3, want)[0]
        self.editor.hear(answer(number, sheet_number, told, birth))
        return number

    def states(self):
        return [row[2] for row in self.editor.shown()]


class Ask(Asking):
    def test_numbers_and_letters(self):
        self.editor.take_up(0, "")
        for number, (file, want) in enumerate(((3, FIND), (3, WORD), (0, ROWS), (3, RENAME), (3, FIND))):
            self.assertEqual(self.editor.ask(file, want), (number, [(1, ("ask", number, file, want))]))
        self.assertEqual(self.editor.shown(), [(0, 3, "waits", None), (1, 3, "waits", None), (2, 0, "waits", None),
                                               (3, 3, "waits", None), (4, 3, "waits", None)])

    def test_numbers_go_on(self):
        self.asked(FIND, FIND)
        self.editor.call_off(1)
        self.editor.hear(answer(0, 1, FOUND))
        self.editor.close(3)
        self.editor.fallen()
        self.editor.begun()
        self.editor.take_up(3, "")
        self.assertEqual(self.editor.ask(3, FIND)[0], 2)

    def test_not_open(self):
        for want in (FIND, (), ("word", (9, 9)), ("look",)):
            self.assert_refuses(NoFile, self.editor, "ask", 2, want)
        self.editor.close(3)
        self.assert_refuses(NoFile, self.editor, "ask", 3, FIND)

    def test_no_asks(self):
        for want in ((), ("find",), ("find", ""), ("find", "abcdefghi"), ("find", "A"), ("find", 1), ("rows", (0, 0)),
                     ("word", "ab"), ("word", (0,)), ("word", (0, 0), "ab"), ("rename", (0, 0)), ("look", "ab"),
                     ("rename", (0, 0), "A"), ("rename", (9, 9), ""), (1, 2)):
            self.assert_refuses(BadAsk, self.editor, "ask", 3, want)

    def test_no_places(self):
        for place in ((0, 6), (1, 3), (2, 0), (-1, 0), (0, -1)):
            self.assert_refuses(BadPlace, self.editor, "ask", 3, ("word", place))
            self.assert_refuses(BadPlace, self.editor, "ask", 3, ("rename", place, "ab"))

    def test_places_of_the_sheet_as_it_stands(self):
        self.editor.edit(3, [((0, 5), (1, 2), "")])
        self.assert_refuses(BadPlace, self.editor, "ask", 3, ("word", (1, 0)))
        self.editor.edit(3, [put("\n\n")])
        self.assertEqual(self.editor.ask(3, ("word", (2, 5)))[0], 0)

    def test_ten_wait_and_an_eleventh(self):
        self.editor.take_up(0, "")
        self.assertEqual(self.asked(*[FIND] * 10), list(range(10)))
        for file in (0, 3):
            self.assert_refuses(TooMany, self.editor, "ask", file, FIND)
            self.assert_refuses(BadAsk, self.editor, "ask", file, ("look",))
            self.assert_refuses(BadPlace, self.editor, "ask", file, ("word", (9, 9)))
        self.assert_refuses(NoFile, self.editor, "ask", 1, FIND)

    def test_one_more_when_one_waits_no_more(self):
        self.editor.take_up(0, "")
        self.editor.ask(0, FIND)
        self.asked(*[FIND] * 9)
        self.editor.call_off(4)
        self.assertEqual(self.asked(FIND), [10])
        self.assert_refuses(TooMany, self.editor, "ask", 3, FIND)
        self.editor.hear(answer(7, 1, FOUND))
        self.assertEqual(self.asked(FIND), [11])
        self.assert_refuses(TooMany, self.editor, "ask", 3, FIND)
        self.editor.close(0)
        self.assertEqual(self.asked(FIND), [12])
        self.assert_refuses(TooMany, self.editor, "ask", 3, FIND)


class CallOff(Asking):
    def test_one_that_waits(self):
        self.asked(FIND, FIND, FIND)
        self.assertEqual(self.editor.call_off(1), [(1, ("off", 1))])
        self.assertEqual(self.editor.shown(), [(0, 3, "waits", None), (1, 3, "off", None), (2, 3, "waits", None)])

    def test_twice(self):
        self.asked(FIND)
        self.editor.call_off(0)
        self.assert_refuses(NoAsk, self.editor, "call_off", 0)

    def test_answered(self):
        number = self.answered(FIND, FOUND)
        self.assert_refuses(NoAsk, self.editor, "call_off", number)
        self.editor.edit(3, [])
        self.assert_refuses(NoAsk, self.editor, "call_off", number)

    def test_gone(self):
        self.asked(FIND)
        self.editor.close(3)
        self.assert_refuses(NoAsk, self.editor, "call_off", 0)
        self.editor.take_up(3, SHEET)
        self.assert_refuses(NoAsk, self.editor, "call_off", 0)

    def test_never_was(self):
        for number in (-1, 0, 1, 99):
            self.assert_refuses(NoAsk, self.editor, "call_off", number)
        self.asked(FIND)
        for number in (-1, -2, 1, 99):
            self.assert_refuses(NoAsk, self.editor, "call_off", number)

    def test_it_stays_off_when_the_file_is_closed(self):
        self.asked(FIND)
        self.editor.call_off(0)
        self.editor.close(3)
        self.assertEqual(self.states(), ["off"])


class Hear(Asking):
    def assert_nothing(self, letter):
        was = whole(self.editor)
        self.assertIsNone(self.editor.hear(letter))
        self.assertEqual(whole(self.editor), was)

    def test_taken(self):
        for number, (want, told) in enumerate(((FIND, FOUND), (WORD, RUN), (RENAME, RENAMED), (ROWS, [0, 1]),
                                               (("find", "q"), []), (("word", (1, 0)), None))):
            self.asked(want)
            self.assertIsNone(self.editor.hear(answer(number, 1, told)))
            self.assertEqual(self.editor.shown()[number], (number, 3, "now", told))

    def test_of_an_earlier_or_a_later_birth(self):
        self.asked(FIND)
        self.assert_nothing(answer(0, 1, FOUND, 2))
        self.editor.fallen()
        self.editor.begun()
        self.assert_nothing(answer(0, 1, FOUND, 1))
        self.assert_nothing(answer(0, 1, FOUND, 3))
        self.editor.hear(answer(0, 1, FOUND, 2))
        self.assertEqual(self.editor.shown(), [(0, 3, "now", FOUND)])

    def test_called_off(self):
        self.asked(FIND, FIND)
        self.editor.call_off(0)
        self.assert_nothing(answer(0, 1, FOUND))

    def test_gone(self):
        self.asked(FIND)
        self.editor.close(3)
        self.assert_nothing(answer(0, 1, FOUND))
        self.editor.take_up(3, SHEET)
        self.assert_nothing(answer(0, 1, FOUND))

    def test_answered_already(self):
        self.asked(FIND)
        self.editor.edit(3, [put("ab")])
        self.editor.hear(answer(0, 1, FOUND))
        self.assert_nothing(answer(0, 2, [(0, 0), (0, 2), (1, 0)]))
        self.assertEqual(self.editor.shown(), [(0, 3, "old", FOUND)])

    def test_fallen(self):
        self.asked(FIND)
        self.editor.fallen()
        self.assert_nothing(answer(0, 1, FOUND))
        self.assertEqual(self.states(), ["waits"])

    def test_asks_that_never_were(self):
        self.assert_nothing(answer(0, 1, FOUND))
        self.asked(FIND)
        self.assert_nothing(answer(1, 1, FOUND))
        self.assert_nothing(answer(-1, 1, FOUND))


class Shown(Asking):
    def test_an_answer_by_an_older_sheet_is_old(self):
        self.asked(FIND, FIND)
        self.editor.edit(3, [])
        self.editor.hear(answer(0, 1, FOUND))
        self.editor.hear(answer(1, 2, FOUND))
        self.assertEqual(self.editor.shown(), [(0, 3, "old", FOUND), (1, 3, "now", FOUND)])

    def test_old_by_edits_even_by_none(self):
        for edits in ([], [put("x")], [put("x"), ((0, 0), (0, 1), "")]):
            number = self.answered(FIND, FOUND, self.editor.files()[0][1])
            self.assertEqual(self.states()[number], "now")
            self.editor.edit(3, edits)
            self.assertEqual(self.states()[number], "old")

    def test_other_files_count_for_nothing(self):
        self.answered(FIND, FOUND)
        self.editor.take_up(4, SHEET)
        self.editor.edit(4, [put("x")])
        self.editor.close(4)
        self.assertEqual(self.states(), ["now"])

    def test_closed_and_opened_again(self):
        self.answered(FIND, FOUND)
        self.editor.close(3)
        self.assertEqual(self.editor.shown(), [(0, 3, "old", FOUND)])
        self.editor.take_up(3, SHEET)
        self.assertEqual(self.editor.shown(), [(0, 3, "old", FOUND)])
        self.answered(FIND, FOUND, 2)
        self.assertEqual(self.editor.shown(), [(0, 3, "old", FOUND), (1, 3, "now", FOUND)])

    def test_falls_count_for_nothing(self):
        self.answered(FIND, FOUND)
        self.editor.fallen()
        self.assertEqual(self.states(), ["now"])
        self.editor.begun()
        self.assertEqual(self.states(), ["now"])

    def test_an_answer_of_none(self):
        self.answered(("word", (1, 0)), None)
        self.assertEqual(self.editor.shown(), [(0, 3, "now", None)])
        self.editor.edit(3, [])
        self.assertEqual(self.editor.shown(), [(0, 3, "old", None)])


class Along(Asking):
    def test_nothing_done_since(self):
        self.assertEqual(self.editor.along(self.answered(FIND, FOUND)), FOUND)
        self.assertEqual(self.editor.along(self.answered(WORD, RUN)), RUN)
        self.assertEqual(self.editor.along(self.answered(("find", "q"), [])), [])

    def test_by_many_edits(self):
        find = self.answered(FIND, FOUND)
        word = self.answered(WORD, RUN)
        steps = (([put("x\n")], [(0, 0), (2, 0)], ((1, 3), (1, 5))),
                 ([], [(0, 0), (2, 0)], ((1, 3), (1, 5))),
                 ([put("zz", (1, 0)), put("\n", (1, 5))], [(0, 0), (3, 0)], ((1, 5), (2, 2))),
                 ([((2, 1), (3, 1), "-")], [(0, 0), None], ((1, 5), None)),
                 ([put("  ", (1, 3))], [(0, 0), None], ((1, 7), None)))
        for edits, places, run in steps:
            self.editor.edit(3, edits)
            self.assertEqual(self.editor.along(find), places)
            self.assertEqual(self.editor.along(word), run)

    def test_edits_ahead_of_the_hearing_count_too(self):
        self.asked(FIND, WORD)
        self.editor.edit(3, [put("q", (0, 2))])
        self.editor.edit(3, [put("\n", (0, 1))])
        self.editor.hear(answer(0, 1, FOUND))
        self.editor.hear(answer(1, 2, ((0, 4), (0, 6))))
        self.editor.edit(3, [put("r", (1, 0))])
        self.assertEqual(self.editor.along(0), [(0, 0), (2, 0)])
        self.assertEqual(self.editor.along(1), ((1, 4), (1, 6)))

    def test_not_by_edits_ahead_of_the_answers_sheet(self):
        self.asked(FIND)
        self.editor.edit(3, [put("\n")])
        self.editor.hear(answer(0, 2, [(1, 0), (2, 0)]))
        self.assertEqual(self.editor.along(0), [(1, 0), (2, 0)])

    def test_edits_of_a_file_opened_again(self):
        self.editor.edit(3, [put("\n")])
        self.editor.close(3)
        self.editor.take_up(3, SHEET)
        self.editor.edit(3, [])
        number = self.answered(FIND, FOUND, 4)
        self.editor.edit(3, [put("\n", (0, 1))])
        self.assertEqual(self.editor.along(number), [(0, 0), (2, 0)])

    def test_all_taken_out(self):
        find = self.answered(("find", "b"), [(0, 1), (1, 1)])
        word = self.answered(("word", (0, 4)), RUN)
        self.editor.edit(3, [((0, 0), (1, 2), "")])
        self.editor.edit(3, [put("ab cd")])
        self.assertEqual(self.editor.along(find), [None, None])
        self.assertEqual(self.editor.along(word), (None, None))

    def test_an_answer_of_none(self):
        number = self.answered(("word", (1, 0)), None)
        self.editor.edit(3, [put("x")])
        self.assertIsNone(self.editor.along(number))

    def test_closed_since(self):
        numbers = [self.answered(FIND, FOUND), self.answered(WORD, RUN), self.answered(("word", (1, 0)), None)]
        for deed in (self.editor.close, lambda file: self.editor.take_up(file, SHEET)):
            deed(3)
            for number in numbers:
                self.assert_refuses(NoFile, self.editor, "along", number)

    def test_other_asks(self):
        numbers = [self.answered(ROWS, [0, 1]), self.answered(RENAME, RENAMED), self.answered(RENAME, None)]
        for number in numbers:
            self.assert_refuses(BadAsk, self.editor, "along", number)
        self.editor.close(3)
        for number in numbers:
            self.assert_refuses(BadAsk, self.editor, "along", number)

    def test_not_answered(self):
        self.asked(FIND, FIND, ROWS)
        self.editor.call_off(1)
        for number in (-1, 0, 1, 2, 3, 99):
            self.assert_refuses(NoAsk, self.editor, "along", number)
        self.editor.close(3)
        for number in (-1, 0, 1, 2, 3, 99):
            self.assert_refuses(NoAsk, self.editor, "along", number)

    def test_while_the_helper_has_fallen(self):
        number = self.answered(FIND, FOUND)
        self.editor.fallen()
        self.editor.edit(3, [put("\n")])
        self.assertEqual(self.editor.along(number), [(0, 0), (2, 0)])

    def test_as_moved_one_list_of_edits_after_the_other(self):
        chance = random.Random(7)
        for _ in range(60):
            editor = Editor()
            editor.take_up(0, "a ab\naab a\nba")
            places = []
            for number in range(6):
                sheet = editor.files()[0][2]
                editor.ask(0, ("find", "a"))
                told = answer_of(sheet, ("find", "a"))
                editor.hear(answer(number, number + 1, told))
                places.append(told)
                edits = self.some_edits(chance, sheet)
                editor.edit(0, edits)
                places = [[place and moved(sheet, edits, place) for place in row] for row in places]
                self.assertEqual([editor.along(asked) for asked in range(number + 1)], places)

    def some_edits(self, chance, sheet):
        """One or two edits within the last row, and one at the begin of the sheet."""
        rows = sheet.split("\n")
        first, last = sorted((chance.randint(0, len(rows[-1])), chance.randint(0, len(rows[-1]))))
        edits = [((len(rows) - 1, first), (len(rows) - 1, last), chance.choice(("", "a", "ba", "\n", "a\na")))]
        return edits + [put(chance.choice(("", "\n", "a ")))]


class Take(Asking):
    def test_now(self):
        number = self.answered(RENAME, RENAMED)
        self.assertEqual(self.editor.take(number), [(1, ("change", 3, 2, tuple(RENAMED)))])
        self.assertEqual(self.editor.files(), [(3, 2, "xyz cd\nxyz")])
        self.assertEqual(self.editor.shown(), [(0, 3, "old", RENAMED)])

    def test_one_that_was_told_of_a_later_sheet(self):
        self.asked(RENAME)
        self.editor.edit(3, [put("", (0, 0))])
        self.editor.hear(answer(0, 2, RENAMED))
        self.assertEqual(self.editor.take(0), [(1, ("change", 3, 3, tuple(RENAMED)))])

    def test_old(self):
        number = self.answered(RENAME, RENAMED)
        self.editor.edit(3, [])
        self.assert_refuses(Old, self.editor, "take", number)
        self.editor.close(3)
        self.assert_refuses(Old, self.editor, "take", number)
        self.editor.take_up(3, SHEET)
        self.assert_refuses(Old, self.editor, "take", number)

    def test_twice(self):
        number = self.answered(RENAME, RENAMED)
        self.editor.take(number)
        self.assert_refuses(Old, self.editor, "take", number)

    def test_an_answer_of_none(self):
        number = self.answered(("rename", (1, 0), "q"), None)
        self.assert_refuses(BadAsk, self.editor, "take", number)
        self.editor.edit(3, [])
        self.assert_refuses(BadAsk, self.editor, "take", number)

    def test_other_asks(self):
        numbers = [self.answered(FIND, FOUND), self.answered(WORD, RUN), self.answered(ROWS, [0, 1]),
                   self.answered(("find", "q"), []), self.answered(("word", (1, 0)), None)]
        for number in numbers:
            self.assert_refuses(BadAsk, self.editor, "take", number)
        self.editor.edit(3, [])
        for number in numbers:
            self.assert_refuses(BadAsk, self.editor, "take", number)

    def test_not_answered(self):
        self.asked(RENAME, RENAME, FIND)
        self.editor.call_off(1)
        for number in (-1, 0, 1, 2, 3, 99):
            self.assert_refuses(NoAsk, self.editor, "take", number)
        self.editor.close(3)
        for number in (-1, 0, 1, 2, 3, 99):
            self.assert_refuses(NoAsk, self.editor, "take", number)

    def test_behind_another_birth(self):
        number = self.answered(RENAME, RENAMED)
        self.editor.fallen()
        self.editor.begun()
        self.assertEqual(self.editor.take(number), [(2, ("change", 3, 2, tuple(RENAMED)))])


if __name__ == "__main__":
    unittest.main()
