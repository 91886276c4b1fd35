"""Point 14: rows of letters are judged."""

import copy
import unittest

from helperwire.judging import judge

SHEET = "ab cd"


def out(what, birth=1):
    return ("out", (birth, what))


def heard(number, sheet_number, told, birth=1):
    return ("in", (birth, ("answer", number, sheet_number, told)))


def opened(file=0, number=1, sheet=SHEET, birth=1):
    return out(("open", file, number, sheet), birth)


def changed(file, number, *edits, birth=1):
    return out(("change", file, number, edits), birth)


def closed(file=0, birth=1):
    return out(("close", file), birth)


def asked(number, file=0, want=("find", "ab"), birth=1):
    return out(("ask", number, file, want), birth)


def off(number, birth=1):
    return out(("off", number), birth)


def put(text, place=(0, 0)):
    return (place, place, text)


class Judged(unittest.TestCase):
    def assert_lets(self, *log):
        self.assertIsNone(judge(list(log)))

    def assert_stops(self, *log):
        """All but the last can be, the last can't; nor does it depend on what comes behind it."""
        log = list(log)
        self.assertIsNone(judge(log[:-1]))
        self.assertEqual(judge(log), len(log) - 1)
        self.assertEqual(judge(log + [closed(9), opened()]), len(log) - 1)


class Plain(Judged):
    def test_no_letters(self):
        self.assert_lets()

    def test_a_log_in_which_all_can_be(self):
        self.assert_lets(
            opened(3), asked(0, 3), changed(3, 2, put("ab")), asked(1, 3, ("word", (0, 9))), opened(4, 7, ""),
            heard(0, 1, [(0, 0)]), off(1), closed(3), heard(1, 2, None), changed(4, 8), closed(4), opened(3, 3, "q"))

    def test_the_first_of_several_is_told(self):
        self.assertEqual(judge([closed(), closed()]), 0)
        self.assertEqual(judge([opened(), off(5), off(5)]), 1)


class Births(Judged):
    def test_one_at_first(self):
        self.assert_lets(opened(birth=1))
        self.assert_stops(opened(birth=0))
        self.assert_stops(opened(birth=-1))

    def test_a_greater_one_of_an_open(self):
        self.assert_lets(opened(birth=2))
        self.assert_lets(opened(), opened(birth=9), asked(0, birth=9), closed(birth=9))
        self.assert_lets(opened(), opened(birth=2), closed(birth=2), opened(birth=3))

    def test_a_greater_one_of_others(self):
        for letter in (changed(0, 2, birth=2), closed(birth=2), asked(1, birth=2), off(0, birth=2)):
            self.assert_stops(opened(), asked(0), letter)

    def test_a_lesser_one(self):
        for letter in (opened(1), changed(0, 2), closed(), asked(1), off(0)):
            self.assert_stops(opened(birth=2), asked(0, birth=2), letter)
            self.assert_stops(opened(), asked(0), opened(birth=3), asked(0, birth=3), letter)

    def test_then_no_file_is_open(self):
        self.assert_lets(opened(), opened(birth=2))
        self.assert_lets(*[opened(file) for file in range(4)], *[opened(file, birth=2) for file in range(4, 8)])
        self.assert_stops(opened(1), opened(0, birth=2), closed(1, birth=2))
        self.assert_stops(opened(1), opened(0, birth=2), changed(1, 2, birth=2))
        self.assert_stops(opened(1), opened(0, birth=2), asked(0, 1, birth=2))

    def test_then_no_ask_is_known(self):
        self.assert_lets(opened(), asked(0), opened(birth=2), asked(0, birth=2))
        self.assert_stops(opened(), asked(0), opened(birth=2), off(0, birth=2))
        self.assert_stops(opened(), asked(0), opened(birth=2), heard(0, 1, [(0, 0)], birth=2))
        self.assert_lets(opened(), asked(0), off(0), opened(birth=2), asked(0, birth=2), off(0, birth=2))


class Open(Judged):
    def test_any_number(self):
        for number in (-3, 0, 1, 2, 10 ** 9):
            self.assert_lets(opened(0, number), changed(0, number + 1))

    def test_open_already(self):
        self.assert_stops(opened(), opened())
        self.assert_stops(opened(), opened(0, 2, "other"))

    def test_open_again(self):
        self.assert_lets(opened(), closed(), opened(0, 2), closed(), opened())

    def test_a_fifth(self):
        four = [opened(file) for file in (2, 5, 0, 9)]
        self.assert_lets(*four)
        self.assert_stops(*four, opened(1))
        self.assert_lets(*four, closed(5), opened(1))
        self.assert_stops(*four, closed(5), opened(1), opened(5))


class Change(Judged):
    def test_can_be(self):
        self.assert_lets(opened(), changed(0, 2), changed(0, 3, put("x"), put("\n")), changed(0, 4, put("", (1, 6))))

    def test_not_open(self):
        self.assert_stops(changed(0, 2))
        self.assert_stops(opened(1), changed(0, 2))
        self.assert_stops(opened(), closed(), changed(0, 2))

    def test_another_number(self):
        for number in (-1, 0, 1, 3, 99):
            self.assert_stops(opened(), changed(0, number))
        self.assert_stops(opened(), changed(0, 2), changed(0, 2))
        self.assert_stops(opened(), changed(0, 2), changed(0, 4))
        self.assert_stops(opened(), changed(0, 2), closed(), opened(0, 7), changed(0, 3))

    def test_edits_that_cant_be(self):
        for edits in ([put("", (0, 6))], [put("y" * 41)], [put("\t")], [put("y")] * 9, [((0, 1), (0, 0), "")], [()],
                      [put("y"), put("", (0, 7))], [put("y" * 40)] * 5):
            self.assert_stops(opened(), changed(0, 2, *edits))

    def test_edits_of_the_sheet_that_came(self):
        self.assert_stops(opened(), changed(0, 2, ((0, 0), (0, 5), "")), changed(0, 3, put("", (0, 1))))
        self.assert_lets(opened(sheet=""), changed(0, 2, put("y" * 40)), changed(0, 3, put("", (0, 40))))
        self.assert_lets(opened(), changed(0, 2, *[put("y")] * 8))

    def test_each_file_has_its_own(self):
        self.assert_lets(opened(0), opened(1, 5, ""), changed(1, 6), changed(0, 2, put("", (0, 5))))
        self.assert_stops(opened(0), opened(1, 5, ""), changed(0, 6))
        self.assert_stops(opened(0), opened(1, 5, ""), changed(1, 6, put("", (0, 5))))


class Close(Judged):
    def test_can_be(self):
        self.assert_lets(opened(), closed())

    def test_not_open(self):
        self.assert_stops(closed())
        self.assert_stops(opened(), closed(1))
        self.assert_stops(opened(), closed(), closed())


class Ask(Judged):
    def test_can_be(self):
        self.assert_lets(opened(), asked(5), asked(3), asked(4, 0, ("rename", (-1, 999), "q")))

    def test_not_open(self):
        self.assert_stops(asked(0))
        self.assert_stops(opened(), asked(0, 1))
        self.assert_stops(opened(), closed(), asked(0))

    def test_a_known_number(self):
        self.assert_stops(opened(), asked(0), asked(0))
        self.assert_stops(opened(), opened(1), asked(0), asked(0, 1, ("rows", "q")))
        self.assert_stops(opened(), asked(0), off(0), asked(0))
        self.assert_stops(opened(), asked(0), closed(), opened(), asked(0))

    def test_the_number_of_one_that_was_answered(self):
        log = [opened(), asked(0), off(0), heard(0, 1, [(0, 0)]), asked(0)]
        self.assert_lets(*log)
        self.assert_lets(*log, off(0))
        self.assert_lets(*log, heard(0, 1, [(0, 0)]))

    def test_more_than_ten(self):
        self.assert_lets(opened(), *[asked(number) for number in range(12)])


class Off(Judged):
    def test_can_be(self):
        self.assert_lets(opened(), asked(0), off(0))
        self.assert_lets(opened(), asked(0), asked(1), off(1), off(0))
        self.assert_lets(opened(), asked(0), closed(), off(0))

    def test_not_known(self):
        self.assert_stops(off(0))
        self.assert_stops(opened(), asked(0), off(1))
        self.assert_stops(opened(), asked(0), heard(0, 1, [(0, 0)]), off(0))

    def test_called_off(self):
        self.assert_stops(opened(), asked(0), off(0), off(0))
        self.assert_stops(opened(), asked(0), asked(1), off(0), off(1), off(0))


class AnswerBirths(Judged):
    def test_a_birth_ahead_may_be_anything(self):
        for number, sheet_number, told in ((0, 1, [(0, 0)]), (0, 1, None), (77, -5, (1, 2)), (0, 99, [])):
            self.assert_lets(opened(), asked(0), opened(birth=3), asked(0, birth=3),
                             heard(number, sheet_number, told, 1), heard(number, sheet_number, told, 2))

    def test_it_answers_no_ask_of_this_birth(self):
        self.assert_lets(opened(birth=2), asked(0, birth=2), heard(0, 1, [(0, 0)], 1), heard(0, 1, [(0, 0)], 2))

    def test_a_greater_one_cant_be(self):
        self.assert_stops(heard(0, 1, [], 2))
        self.assert_stops(opened(), asked(0), heard(0, 1, [(0, 0)], 2))
        self.assert_stops(opened(), asked(0), opened(birth=2), heard(0, 1, [(0, 0)], 3))

    def test_it_starts_no_birth(self):
        self.assert_lets(opened(birth=2), asked(0, birth=2), heard(0, 0, 0, 1), asked(1, birth=2))


class Answers(Judged):
    def test_not_known(self):
        self.assert_stops(heard(0, 1, None))
        self.assert_stops(opened(), heard(0, 1, [(0, 0)]))
        self.assert_stops(opened(), asked(0), heard(1, 1, [(0, 0)]))

    def test_known_till_answered(self):
        self.assert_stops(opened(), asked(0), heard(0, 1, [(0, 0)]), heard(0, 1, [(0, 0)]))
        self.assert_lets(opened(), asked(0), asked(1), heard(1, 1, [(0, 0)]), heard(0, 1, [(0, 0)]))

    def test_known_when_called_off(self):
        self.assert_lets(opened(), asked(0), off(0), heard(0, 1, [(0, 0)]))
        self.assert_stops(opened(), asked(0), off(0), heard(0, 1, [(0, 0)]), heard(0, 1, [(0, 0)]))

    def test_each_kind_of_ask(self):
        cases = ((("find", "ab"), [(0, 0)]), (("find", "q"), []), (("rows", "cd"), [0]), (("rows", "q"), []),
                 (("word", (0, 4)), ((0, 3), (0, 5))), (("rename", (0, 0), "q"), [((0, 0), (0, 2), "q")]))
        others = (None, [], (), [(0, 1)], ((0, 0), (0, 0)), [1], 0, "", [((0, 0), (0, 2), "p")])
        for want, told in cases:
            self.assert_lets(opened(), asked(0, 0, want), heard(0, 1, told))
            for other in others:
                if other != told:
                    self.assert_stops(opened(), asked(0, 0, want), heard(0, 1, other))

    def test_a_place_that_the_sheet_hasnt(self):
        for place in ((0, 6), (1, 0), (-1, 0), (0, -1), (99, 99)):
            for want in (("word", place), ("rename", place, "q")):
                self.assert_lets(opened(), asked(0, 0, want), heard(0, 1, None))
                self.assert_stops(opened(), asked(0, 0, want), heard(0, 1, []))

    def test_a_place_that_is_gone_or_has_come(self):
        want = ("word", (0, 4))
        gone = [opened(), asked(0, 0, want), changed(0, 2, ((0, 2), (0, 5), ""))]
        self.assert_lets(*gone, heard(0, 2, None))
        self.assert_lets(*gone, heard(0, 1, ((0, 3), (0, 5))))
        self.assert_stops(*gone, heard(0, 1, None))
        self.assert_stops(*gone, heard(0, 2, ((0, 3), (0, 5))))


class AnswerSheets(Judged):
    """A file had the sheets 1 to 4; it was asked when it had the second."""

    LOG = [opened(), changed(0, 2, put("ab")), asked(0), changed(0, 3, put("ab ")), changed(0, 4, ((0, 0), (0, 9), ""))]
    TOLD = {1: [(0, 0)], 2: [(0, 0), (0, 2)], 3: [(0, 0), (0, 3), (0, 5)], 4: []}

    def test_any_sheet_from_the_ask_on(self):
        for number in (2, 3, 4):
            self.assert_lets(*self.LOG, heard(0, number, self.TOLD[number]))

    def test_none_ahead_of_the_ask(self):
        self.assert_stops(*self.LOG, heard(0, 1, self.TOLD[1]))

    def test_no_number_that_the_file_hasnt_had(self):
        for number in (-1, 0, 5, 99):
            self.assert_stops(*self.LOG, heard(0, number, self.TOLD[4]))

    def test_what_is_told_goes_with_the_number(self):
        for number in (2, 3, 4):
            for other in (1, 2, 3, 4):
                if other != number:
                    self.assert_stops(*self.LOG, heard(0, number, self.TOLD[other]))

    def test_no_sheet_that_is_still_to_come(self):
        self.assert_stops(*self.LOG[:4], heard(0, 4, self.TOLD[4]))

    def test_behind_the_close_too(self):
        for number in (2, 3, 4):
            self.assert_lets(*self.LOG, closed(), heard(0, number, self.TOLD[number]))
        self.assert_stops(*self.LOG, closed(), heard(0, 1, self.TOLD[1]))

    def test_not_by_sheets_of_the_file_opened_again(self):
        again = [*self.LOG, closed(), opened(0, 5, "ab"), changed(0, 6)]
        self.assert_lets(*again, heard(0, 4, []))
        self.assert_stops(*again, heard(0, 5, [(0, 0)]))
        self.assert_stops(*again, heard(0, 6, [(0, 0)]))

    def test_not_by_like_numbers_of_the_file_opened_again(self):
        again = [*self.LOG, closed(), opened(0, 3, "q ab"), asked(1)]
        self.assert_lets(*again, heard(0, 3, self.TOLD[3]), heard(1, 3, [(0, 2)]))
        self.assert_stops(*again, heard(0, 3, [(0, 2)]))
        self.assert_stops(*again, heard(1, 3, self.TOLD[3]))
        self.assert_stops(*again, heard(1, 4, []))

    def test_not_by_sheets_of_other_files(self):
        self.assert_stops(*self.LOG, opened(1, 9, "ab"), heard(0, 9, [(0, 0)]))

    def test_asks_of_two_files(self):
        log = [opened(0, 1, "ab"), opened(1, 1, " ab"), asked(0, 0), asked(1, 1)]
        self.assert_lets(*log, heard(1, 1, [(0, 1)]), heard(0, 1, [(0, 0)]))
        self.assert_stops(*log, heard(1, 1, [(0, 0)]))


class NothingIsChangedOrKept(Judged):
    def test_the_list_stays_and_the_same_is_told_again(self):
        good = [opened(), asked(0), changed(0, 2, put("x")), off(0), closed(), heard(0, 2, [(0, 1)])]
        for log in (good, good + [off(0)]):
            was = copy.deepcopy(log)
            told = judge(log)
            self.assertEqual(log, was)
            self.assertEqual(judge(log), told)

    def test_kinds(self):
        self.assertIs(type(judge([closed()])), int)
        self.assertIsNone(judge([]))


if __name__ == "__main__":
    unittest.main()
