"""Points 6 and 9: the editor's files, and its letters while helpers fall and begin."""

import unittest

from helperwire.editor import Editor
from helperwire.errors import (BadAsk, BadEdit, BadFile, BadPlace, BadSheet, Fallen, NoFile, NotFallen, Opened,
                               TooMany)
from support import Refusing, put, whole

NO_FILES = (-1, 10, 11, -10, 999)


class Files(Refusing):
    def test_none_at_first(self):
        self.assertEqual((Editor().files(), Editor().shown()), ([], []))

    def test_first_and_last(self):
        editor = Editor()
        for file in (9, 0):
            self.assertEqual(editor.take_up(file, "ab"), [(1, ("open", file, 1, "ab"))])
            self.assertEqual(editor.edit(file, []), [(1, ("change", file, 2, ()))])
            self.assertEqual(editor.ask(file, ("find", "ab"))[1][0][1][2], file)
        self.assertEqual(editor.files(), [(0, 2, "ab"), (9, 2, "ab")])
        for file in (9, 0):
            self.assertEqual(editor.close(file), [(1, ("close", file))])
        self.assertEqual(editor.files(), [])

    def test_no_file_ahead_of_all_else(self):
        full = Editor()
        for file in range(4):
            full.take_up(file, "")
        for _ in range(10):
            full.ask(0, ("find", "a"))
        for editor in (Editor(), full):
            for file in NO_FILES:
                for sheet in ("", "\t", "a" * 201):
                    self.assert_refuses(BadFile, editor, "take_up", file, sheet)
                for edits in ([], [put("a")], [()], [put("\t")], [put("")] * 9):
                    self.assert_refuses(BadFile, editor, "edit", file, edits)
                self.assert_refuses(BadFile, editor, "close", file)
                for want in (("find", "a"), ("word", (9, 9)), (), ("look",)):
                    self.assert_refuses(BadFile, editor, "ask", file, want)


class TakeUp(Refusing):
    def test_opened_twice(self):
        editor = Editor()
        editor.take_up(3, "ab")
        for sheet in ("ab", "other", "\t", "a" * 201):
            self.assert_refuses(Opened, editor, "take_up", 3, sheet)
        self.assertEqual(editor.files(), [(3, 1, "ab")])

    def test_bad_sheets(self):
        editor = Editor()
        for sheet in ("\t", "a\r\n", "caf\xe9", "\x7f", "\x1f", "a" * 201, "\n" * 201):
            self.assert_refuses(BadSheet, editor, "take_up", 3, sheet)
        self.assertEqual(editor.take_up(3, "ok"), [(1, ("open", 3, 1, "ok"))])

    def test_any_sheet(self):
        for sheet in ("", "\n", " ~\n", "a" * 200, "\n" * 200):
            editor = Editor()
            self.assertEqual(editor.take_up(0, sheet), [(1, ("open", 0, 1, sheet))])
            self.assertEqual(editor.files(), [(0, 1, sheet)])

    def test_a_fifth(self):
        editor = Editor()
        for file in (7, 2, 9, 0):
            editor.take_up(file, "x")
        self.assert_refuses(TooMany, editor, "take_up", 5, "x")
        self.assert_refuses(BadSheet, editor, "take_up", 5, "\t")
        self.assert_refuses(Opened, editor, "take_up", 7, "x")
        self.assertEqual([row[0] for row in editor.files()], [0, 2, 7, 9])
        editor.close(2)
        self.assertEqual(editor.take_up(5, "x"), [(1, ("open", 5, 1, "x"))])
        self.assert_refuses(TooMany, editor, "take_up", 2, "x")

    def test_the_number_of_a_file_opened_again(self):
        editor = Editor()
        editor.take_up(4, "a")
        editor.edit(4, [put("b")])
        editor.edit(4, [])
        editor.close(4)
        self.assertEqual(editor.take_up(4, "q"), [(1, ("open", 4, 4, "q"))])
        self.assertEqual(editor.files(), [(4, 4, "q")])
        editor.close(4)
        self.assertEqual(editor.take_up(4, "r"), [(1, ("open", 4, 5, "r"))])
        self.assertEqual(editor.edit(4, []), [(1, ("change", 4, 6, ()))])
        self.assertEqual(editor.take_up(5, "r"), [(1, ("open", 5, 1, "r"))])

    def test_a_refused_one_takes_no_number(self):
        editor = Editor()
        editor.take_up(4, "a")
        editor.close(4)
        self.assert_refuses(BadSheet, editor, "take_up", 4, "\t")
        self.assert_refuses(NoFile, editor, "close", 4)
        self.assertEqual(editor.take_up(4, "a"), [(1, ("open", 4, 2, "a"))])


class Edit(Refusing):
    def setUp(self):
        self.editor = Editor()
        self.editor.take_up(1, "ab\ncd")

    def test_not_open(self):
        for edits in ([], [put("a")], [()], [put("")] * 9):
            self.assert_refuses(NoFile, self.editor, "edit", 0, edits)
        self.editor.close(1)
        self.assert_refuses(NoFile, self.editor, "edit", 1, [])

    def test_none(self):
        self.assertEqual(self.editor.edit(1, []), [(1, ("change", 1, 2, ()))])
        self.assertEqual(self.editor.files(), [(1, 2, "ab\ncd")])

    def test_some(self):
        edits = [put("x"), ((0, 3), (1, 0), ""), put("y", (0, 5))]
        self.assertEqual(self.editor.edit(1, edits), [(1, ("change", 1, 2, tuple(edits)))])
        self.assertEqual(self.editor.files(), [(1, 2, "xabcdy")])
        self.assertEqual(self.editor.edit(1, [((0, 0), (0, 6), "")]), [(1, ("change", 1, 3, (((0, 0), (0, 6), ""),)))])
        self.assertEqual(self.editor.files(), [(1, 3, "")])

    def test_eight_and_a_ninth(self):
        self.assertEqual(self.assert_refuses(BadEdit, self.editor, "edit", 1, [put("x")] * 9).number, 8)
        self.assertEqual(self.editor.edit(1, [put("x")] * 8), [(1, ("change", 1, 2, (put("x"),) * 8))])
        self.assertEqual(self.editor.files(), [(1, 2, "x" * 8 + "ab\ncd")])

    def test_the_first_that_cant_be(self):
        for number, bad in enumerate((put("", (0, 3)), put("", (2, 0)), put("\t"), put("x" * 41), (),
                                      ((1, 0), (0, 0), ""))):
            edits = [put("", (0, 0))] * number + [bad, bad]
            self.assertEqual(self.assert_refuses(BadEdit, self.editor, "edit", 1, edits).number, number)

    def test_too_many_signs(self):
        self.editor.edit(1, [put("x" * 40)] * 4)
        self.assertEqual(self.assert_refuses(BadEdit, self.editor, "edit", 1, [put("x" * 30), put("x" * 6)]).number, 1)
        self.editor.edit(1, [put("x" * 30), put("x" * 5)])
        self.assertEqual(len(self.editor.files()[0][2]), 200)

    def test_each_file_has_its_own(self):
        self.editor.take_up(0, "")
        self.editor.edit(1, [put("q")])
        self.assertEqual(self.editor.files(), [(0, 1, ""), (1, 2, "qab\ncd")])


class Close(Refusing):
    def test_not_open(self):
        editor = Editor()
        self.assert_refuses(NoFile, editor, "close", 0)
        editor.take_up(0, "")
        self.assert_refuses(NoFile, editor, "close", 1)
        editor.close(0)
        self.assert_refuses(NoFile, editor, "close", 0)

    def test_asks_that_wait_are_gone(self):
        editor = Editor()
        for file in (0, 1):
            editor.take_up(file, "ab")
            for _ in range(4):
                editor.ask(file, ("rows", "ab"))
        editor.call_off(1)
        editor.hear((1, ("answer", 2, 1, [0])))
        editor.close(0)
        self.assertEqual([row[2] for row in editor.shown()], ["gone", "off", "old", "gone"] + ["waits"] * 4)
        editor.take_up(0, "ab")
        self.assertEqual([row[2] for row in editor.shown()], ["gone", "off", "old", "gone"] + ["waits"] * 4)

    def test_asks_of_the_file_opened_again_wait(self):
        editor = Editor()
        editor.take_up(0, "ab")
        editor.ask(0, ("rows", "ab"))
        editor.close(0)
        editor.take_up(0, "ab")
        editor.ask(0, ("rows", "ab"))
        self.assertEqual([row[2] for row in editor.shown()], ["gone", "waits"])
        editor.close(0)
        self.assertEqual([row[2] for row in editor.shown()], ["gone", "gone"])


class Falling(Refusing):
    def test_twice(self):
        editor = Editor()
        self.assertIsNone(editor.fallen())
        self.assert_refuses(Fallen, editor, "fallen")
        self.assertEqual(editor.begun(), [])
        self.assertIsNone(editor.fallen())
        self.assert_refuses(Fallen, editor, "fallen")

    def test_beginning_without_a_fall(self):
        editor = Editor()
        self.assert_refuses(NotFallen, editor, "begun")
        self.assertEqual(editor.take_up(0, ""), [(1, ("open", 0, 1, ""))])
        editor.fallen()
        editor.begun()
        self.assert_refuses(NotFallen, editor, "begun")
        self.assertEqual(editor.edit(0, []), [(2, ("change", 0, 2, ()))])

    def test_deeds_tell_no_letters(self):
        editor = Editor()
        editor.take_up(0, "ab")
        editor.ask(0, ("rename", (0, 0), "cd"))
        editor.hear((1, ("answer", 0, 1, [((0, 0), (0, 2), "cd")])))
        editor.fallen()
        self.assertEqual(editor.take(0), [])
        self.assertEqual(editor.take_up(1, "q"), [])
        self.assertEqual(editor.edit(0, [put("x")]), [])
        self.assertEqual(editor.ask(0, ("find", "x")), (1, []))
        self.assertEqual(editor.ask(1, ("find", "q")), (2, []))
        self.assertEqual(editor.call_off(1), [])
        self.assertEqual(editor.close(1), [])
        self.assertEqual(editor.files(), [(0, 3, "xcd")])
        self.assertEqual([row[2] for row in editor.shown()], ["old", "off", "gone"])

    def test_deeds_are_refused_as_before(self):
        editor = Editor()
        editor.take_up(0, "ab")
        editor.fallen()
        self.assert_refuses(BadFile, editor, "take_up", 10, "")
        self.assert_refuses(Opened, editor, "take_up", 0, "")
        self.assert_refuses(BadEdit, editor, "edit", 0, [()])
        self.assert_refuses(NoFile, editor, "close", 1)
        self.assert_refuses(BadAsk, editor, "ask", 0, ())
        self.assert_refuses(BadPlace, editor, "ask", 0, ("word", (0, 3)))
        for _ in range(10):
            editor.ask(0, ("find", "a"))
        self.assert_refuses(TooMany, editor, "ask", 0, ("find", "a"))


class Beginning(Refusing):
    def test_all_open_files_then_all_that_wait(self):
        editor = Editor()
        for file in (7, 2, 9):
            editor.take_up(file, f"ab {file}")
        wants = (("find", "ab"), ("word", (0, 1)), ("rows", "ab"), ("rename", (0, 0), "cd"), ("word", (0, 4)),
                 ("find", "q"))
        for file, want in zip((9, 2, 7, 2, 7, 2), wants):
            editor.ask(file, want)
        editor.call_off(2)
        editor.hear((1, ("answer", 1, 1, ((0, 0), (0, 2)))))
        editor.edit(7, [((0, 0), (0, 4), "")])
        editor.close(9)
        editor.fallen()
        editor.take_up(4, "")
        editor.edit(2, [])
        editor.ask(4, ("rows", "z"))
        self.assertEqual(editor.begun(), [
            (2, ("open", 2, 2, "ab 2")), (2, ("open", 4, 1, "")), (2, ("open", 7, 2, "")),
            (2, ("ask", 3, 2, wants[3])), (2, ("ask", 4, 7, wants[4])), (2, ("ask", 5, 2, wants[5])),
            (2, ("ask", 6, 4, ("rows", "z")))])

    def test_it_changes_neither_files_nor_asks(self):
        editor = Editor()
        editor.take_up(3, "ab")
        editor.edit(3, [])
        editor.ask(3, ("find", "ab"))
        editor.ask(3, ("find", "ab"))
        editor.hear((1, ("answer", 0, 2, [(0, 0)])))
        was = whole(editor)
        for birth in range(2, 6):
            editor.fallen()
            self.assertEqual(whole(editor), was)
            self.assertEqual(editor.begun(), [(birth, ("open", 3, 2, "ab")), (birth, ("ask", 1, 3, ("find", "ab")))])
            self.assertEqual(whole(editor), was)

    def test_the_new_birth_from_then_on(self):
        editor = Editor()
        editor.fallen()
        self.assertEqual(editor.begun(), [])
        editor.fallen()
        self.assertEqual(editor.begun(), [])
        self.assertEqual(editor.take_up(0, "a"), [(3, ("open", 0, 1, "a"))])
        self.assertEqual(editor.edit(0, []), [(3, ("change", 0, 2, ()))])
        self.assertEqual(editor.ask(0, ("find", "a")), (0, [(3, ("ask", 0, 0, ("find", "a")))]))
        self.assertEqual(editor.call_off(0), [(3, ("off", 0))])
        self.assertEqual(editor.close(0), [(3, ("close", 0))])


if __name__ == "__main__":
    unittest.main()
