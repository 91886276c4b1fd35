"""Points 3 and 4: edits, and what is told of them."""

import copy
import random
import unittest

from helperwire.errors import BadEdit, BadPlace, BadSheet
from helperwire.sheets import back, edited, moved, number_of, place_of, together

SHEET = "ab\ncd"
FULL = "x" * 200


def insertion(text="y", place=(0, 0)):
    return (place, place, text)


# Lists of edits of SHEET with the number of the first that can't be.
REFUSED = (
    ([insertion()] * 9, 8),
    ([insertion()] * 30, 8),
    ([insertion()] * 8 + [()], 8),
    ([insertion()] * 7 + [((9, 9), (9, 9), "")] + [insertion()] * 2, 7),
    ([insertion("", (0, 3))], 0),
    ([insertion("", (2, 0))], 0),
    ([insertion("", (0, -1))], 0),
    ([insertion("", (-1, 0))], 0),
    ([((0, 0), (1, 3), "")], 0),
    ([((0, 0), (0, 999), "")], 0),
    ([((0, 1), (0, 0), "")], 0),
    ([((1, 0), (0, 2), "y")], 0),
    ([insertion("y" * 41)], 0),
    ([insertion("\n" * 41)], 0),
    ([insertion("\t")], 0),
    ([insertion("\r")], 0),
    ([insertion("\x7f")], 0),
    ([insertion("caf\xe9")], 0),
    ([()], 0),
    ([((0, 0),)], 0),
    ([((0, 0), (0, 0))], 0),
    ([((0, 0), (0, 0), "", "")], 0),
    ([((0, 0), (0, 0), 5)], 0),
    ([((0, 0), (0, 0), ())], 0),
    ([("", "", "")], 0),
    ([(0, 0, "")], 0),
    ([((0,), (0, 0), "")], 0),
    ([((0, 0), (0, 0, 0), "")], 0),
    ([(("a", 0), (0, 0), "")], 0),
    ([((0, 0), (0, (0, 0)), "")], 0),
    ([((), (), "")], 0),
    ([insertion(), ()], 1),
    ([insertion(), insertion(), insertion("y", (0, 5))], 2),
    ([((0, 0), (1, 2), ""), insertion("y", (0, 1))], 1),
    ([insertion("y" * 40)] * 4 + [insertion("y" * 36)], 4),
    ([insertion("y" * 40)] * 5 + [((0, 0), (0, 40), "")], 4),
    ([(), insertion("", (9, 9))], 0),
)


def random_text(chance, most):
    return "".join(chance.choice("ab \n") for _ in range(chance.randrange(most + 1)))


def random_edits(chance, sheet):
    """Some edits of a sheet, built by numbers and not by the program's own spans."""
    edits = []
    for _ in range(chance.randrange(9)):
        first = chance.randrange(len(sheet) + 1)
        last = min(len(sheet), first + chance.choice((0, 0, 1, 2, 5, 60)))
        put = random_text(chance, chance.choice((0, 1, 3, 40)))
        if len(sheet) - (last - first) + len(put) > 200:
            continue
        edits.append((place_of(sheet, first), place_of(sheet, last), put))
        sheet = sheet[:first] + put + sheet[last:]
    return edits, sheet


def random_cases(seed, many=300):
    chance = random.Random(seed)
    for _ in range(many):
        sheet = random_text(chance, chance.choice((0, 3, 12, 200)))
        edits, after = random_edits(chance, sheet)
        yield sheet, edits, after


class Edited(unittest.TestCase):
    def test_no_edits(self):
        self.assertEqual(edited("", []), "")
        self.assertEqual(edited(SHEET, []), SHEET)

    def test_one(self):
        self.assertEqual(edited(SHEET, [((0, 1), (1, 1), "xy")]), "axyd")
        self.assertEqual(edited(SHEET, [((0, 2), (1, 0), "")]), "abcd")
        self.assertEqual(edited(SHEET, [insertion("\n", (1, 2))]), "ab\ncd\n")
        self.assertEqual(edited("", [insertion("q")]), "q")
        self.assertEqual(edited(SHEET, [insertion("")]), SHEET)
        self.assertEqual(edited(SHEET, [((0, 0), (1, 2), "")]), "")

    def test_each_is_done_on_the_sheet_of_those_ahead(self):
        edits = [insertion("x\n", (0, 1)), ((1, 0), (1, 1), "zz"), ((0, 2), (1, 0), ""), insertion("!", (0, 4))]
        wanted = ("ab\ncd", "ax\nb\ncd", "ax\nzz\ncd", "axzz\ncd", "axzz!\ncd")
        for many, sheet in enumerate(wanted):
            self.assertEqual(edited(SHEET, edits[:many]), sheet)
        with self.assertRaises(BadEdit):
            edited(SHEET, edits[3:])

    def test_eight(self):
        edits = [insertion(sign) for sign in "hgfedcba"]
        self.assertEqual(edited("!", edits), "abcdefgh!")

    def test_forty_signs_can_be_put(self):
        self.assertEqual(edited("ab", [insertion("\n" * 40, (0, 1))]), "a" + "\n" * 40 + "b")

    def test_two_hundred_signs_can_come(self):
        self.assertEqual(edited("x" * 160, [insertion("y" * 40)]), "y" * 40 + "x" * 160)
        self.assertEqual(edited(FULL, [((0, 0), (0, 40), "y" * 40)]), "y" * 40 + "x" * 160)
        self.assertEqual(edited(FULL, [((0, 0), (0, 1), ""), insertion()]), "y" + "x" * 199)

    def test_more_can_not(self):
        for sheet, edits in ((FULL, [insertion()]), ("x" * 161, [insertion("y" * 40)]),
                             (FULL, [((0, 0), (0, 39), "y" * 40)])):
            with self.assertRaises(BadEdit) as caught:
                edited(sheet, edits)
            self.assertEqual(caught.exception.number, 0)

    def test_refusals_of_each_function(self):
        calls = (edited, together, back, lambda sheet, edits: moved(sheet, edits, (0, 0)),
                 lambda sheet, edits: moved(sheet, edits, (9, 9)))
        for edits, number in REFUSED:
            for call in calls:
                with self.subTest(edits), self.assertRaises(BadEdit) as caught:
                    call(SHEET, edits)
                self.assertEqual(caught.exception.number, number, edits)

    def test_the_sheet_is_refused_ahead_of_the_edits(self):
        for call in (edited, together, back, lambda sheet, edits: moved(sheet, edits, (9, 9))):
            with self.assertRaises(BadSheet):
                call("x" * 201, [()])
            with self.assertRaises(BadSheet):
                call("\t", [insertion()] * 9)

    def test_by_chance(self):
        for sheet, edits, after in random_cases(3):
            self.assertEqual(edited(sheet, edits), after)


class Together(unittest.TestCase):
    def test_by_hand(self):
        self.assertEqual(together("abcd", [((0, 1), (0, 3), "xx")]), ((0, 1), (0, 3), "xx"))
        self.assertEqual(together("abcd", [((0, 0), (0, 4), "abxd")]), ((0, 2), (0, 3), "x"))
        self.assertEqual(together("a\nb", [insertion("q", (1, 1)), insertion("p", (1, 0))]), ((1, 0), (1, 1), "pbq"))

    def test_the_begin_takes_its_signs_first(self):
        self.assertEqual(together("aa", [insertion("a")]), ((0, 2), (0, 2), "a"))
        self.assertEqual(together("aaa", [((0, 0), (0, 1), "")]), ((0, 2), (0, 3), ""))
        self.assertEqual(together("abab", [((0, 0), (0, 2), "")]), ((0, 2), (0, 4), ""))
        self.assertEqual(together("ab", [insertion("ab")]), ((0, 2), (0, 2), "ab"))
        self.assertEqual(together("aba", [((0, 1), (0, 3), "")]), ((0, 1), (0, 3), ""))

    def test_none_just_where_the_sheet_stays(self):
        self.assertIsNone(together(SHEET, []))
        self.assertIsNone(together("", []))
        self.assertIsNone(together(SHEET, [insertion("")]))
        self.assertIsNone(together(SHEET, [insertion("q"), ((0, 0), (0, 1), "")]))
        self.assertIsNone(together(SHEET, [((0, 0), (0, 2), "ab")]))
        self.assertIsNotNone(together(SHEET, [((0, 0), (0, 2), "ba")]))

    def test_more_than_forty_signs_may_be_put(self):
        edits = [insertion("y" * 40)] * 5
        self.assertEqual(together("", edits), ((0, 0), (0, 0), "y" * 200))

    def test_by_chance(self):
        for sheet, edits, after in random_cases(4):
            told = together(sheet, edits)
            if sheet == after:
                self.assertIsNone(told)
                continue
            begin, end, put = told
            first, last = number_of(sheet, begin), number_of(sheet, end)
            self.assertEqual(sheet[:first] + put + sheet[last:], after)
            at_begin = max(k for k in range(201) if k <= min(len(sheet), len(after)) and sheet[:k] == after[:k])
            rest, new = sheet[at_begin:], after[at_begin:]
            at_end = max(k for k in range(201) if k <= min(len(rest), len(new))
                         and rest[len(rest) - k:] == new[len(new) - k:])
            self.assertEqual((first, len(sheet) - last), (at_begin, at_end))


def done(sheet, edit):
    """One edit done, whatever length it puts."""
    begin, end, put = edit
    return sheet[:number_of(sheet, begin)] + put + sheet[number_of(sheet, end):]


class Back(unittest.TestCase):
    def test_by_hand(self):
        self.assertEqual(back(SHEET, []), [])
        self.assertEqual(back(SHEET, [((0, 1), (1, 1), "x\ny")]), [((0, 1), (1, 1), "b\nc")])
        self.assertEqual(back(SHEET, [insertion("\n")]), [((0, 0), (1, 0), "")])
        self.assertEqual(back("abc", [((0, 0), (0, 1), ""), insertion("xy", (0, 2))]),
                         [((0, 2), (0, 4), ""), ((0, 0), (0, 0), "a")])

    def test_edits_that_change_nothing_are_told_too(self):
        self.assertEqual(back("ab", [insertion("", (0, 1)), ((0, 0), (0, 2), "ab")]),
                         [((0, 0), (0, 2), "ab"), ((0, 1), (0, 1), "")])

    def test_all_that_was_taken_out_comes_back(self):
        told = back("x" * 100, [((0, 0), (0, 100), "")])
        self.assertEqual(told, [((0, 0), (0, 0), "x" * 100)])

    def test_is_a_list(self):
        self.assertIs(type(back(SHEET, [insertion()])), list)

    def test_by_chance_one_by_one(self):
        for sheet, edits, after in random_cases(5):
            told = back(sheet, edits)
            self.assertEqual([edit[0] for edit in told], [edit[0] for edit in reversed(edits)])
            for at, edit in enumerate(told, 1):
                after = done(after, edit)
                self.assertEqual(after, edited(sheet, edits[:len(edits) - at]))
            self.assertEqual(after, sheet)


class Moved(unittest.TestCase):
    def test_by_one_edit(self):
        edits = [((0, 2), (0, 4), "xyz")]
        wanted = [(0, 0), (0, 1), (0, 2), None, (0, 5), (0, 6), (0, 7)]
        self.assertEqual([moved("abcdef", edits, (0, column)) for column in range(7)], wanted)

    def test_what_is_put_at_a_place_comes_behind_it(self):
        self.assertEqual(moved("ab", [insertion("xy", (0, 1))], (0, 0)), (0, 0))
        self.assertEqual(moved("ab", [insertion("xy", (0, 1))], (0, 1)), (0, 1))
        self.assertEqual(moved("ab", [insertion("xy", (0, 1))], (0, 2)), (0, 4))

    def test_over_rows(self):
        self.assertEqual(moved("ab\ncd", [((0, 1), (1, 1), "\n\n")], (1, 1)), (2, 0))
        self.assertEqual(moved("ab\ncd", [((0, 1), (1, 1), "\n\n")], (1, 2)), (2, 1))
        self.assertIsNone(moved("ab\ncd", [((0, 1), (1, 1), "\n\n")], (1, 0)))
        self.assertEqual(moved("ab\ncd", [((0, 2), (1, 0), "")], (1, 2)), (0, 4))

    def test_by_several_in_turn(self):
        edits = [insertion("x", (0, 0)), ((0, 0), (0, 2), ""), insertion("\n", (0, 0))]
        self.assertEqual(moved("abc", edits, (0, 0)), (0, 0))
        self.assertEqual(moved("abc", edits, (0, 1)), (0, 0))
        self.assertEqual(moved("abc", edits, (0, 2)), (1, 1))

    def test_what_was_taken_out_stays_out(self):
        self.assertIsNone(moved("abc", [((0, 0), (0, 3), ""), insertion("abc")], (0, 1)))

    def test_no_edits(self):
        self.assertEqual(moved("ab\n", [], (1, 0)), (1, 0))

    def test_places_that_the_sheet_hasnt(self):
        for place in ((0, 3), (2, 0), (-1, 0), (0, -1), (), (0,), (0, 0, 0), ((0, 0), 0)):
            with self.subTest(place), self.assertRaises(BadPlace):
                moved(SHEET, [], place)
            with self.subTest(place), self.assertRaises(BadPlace):
                moved(SHEET, [insertion("yyyy\n\n\n"), ((0, 0), (0, 4), "")], place)

    def test_by_chance(self):
        for sheet, edits, after in random_cases(6, 150):
            marks = list(range(len(sheet) + 1))
            text = sheet
            for begin, end, put in edits:
                first, last = number_of(text, begin), number_of(text, end)
                text = text[:first] + put + text[last:]
                marks = [mark if mark is None or mark <= first else None if mark < last
                         else mark + len(put) - (last - first) for mark in marks]
            for at, mark in enumerate(marks):
                wanted = None if mark is None else place_of(after, mark)
                self.assertEqual(moved(sheet, edits, place_of(sheet, at)), wanted)


class NothingIsChangedOrKept(unittest.TestCase):
    def test_the_list_stays(self):
        edits = [insertion("q", (1, 0)), ((0, 0), (0, 1), "zz")]
        was = copy.deepcopy(edits)
        for call in (edited, together, back, lambda sheet, edits: moved(sheet, edits, (0, 2))):
            call(SHEET, edits)
            self.assertEqual(edits, was)

    def test_refused_lists_stay(self):
        for edits, number in REFUSED:
            was = copy.deepcopy(edits)
            with self.assertRaises(BadEdit):
                edited(SHEET, edits)
            self.assertEqual(edits, was)

    def test_what_is_told_may_be_changed(self):
        edits = [insertion("q", (1, 0)), ((0, 0), (0, 1), "zz")]
        told = back(SHEET, edits)
        was = list(told)
        told.clear()
        self.assertEqual(back(SHEET, edits), was)

    def test_the_list_may_be_changed_later(self):
        edits = [insertion("q")]
        told = back(SHEET, edits)
        edits.clear()
        self.assertEqual(told, [((0, 0), (0, 1), "")])

    def test_the_same_is_told_again(self):
        for sheet, edits, after in random_cases(7, 40):
            for call in (edited, together, back, lambda sheet, edits: moved(sheet, edits, (0, 0))):
                self.assertEqual(call(sheet, edits), call(sheet, edits))


if __name__ == "__main__":
    unittest.main()
