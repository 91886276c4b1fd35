"""Point 1 over the whole program: nothing handed in is changed or kept, what is told may be changed by whoever has it,
the same is told again, and two wires, editors or helpers know nothing of one another."""

import copy
import unittest

from helperwire.editor import Editor
from helperwire.helper import Helper
from helperwire.judging import judge
from helperwire.plays import played, read, written
from helperwire.wire import Wire
from support import put, whole

SHEET = "ab cd\nab"
WANTS = (("find", "ab"), ("rows", "ab"), ("word", (0, 0)), ("rename", (0, 0), "xyz"), ("rename", (0, 3), "q"))
TOLD = ([(0, 0), (1, 0)], [0, 1], ((0, 0), (0, 2)), [((1, 0), (1, 2), "xyz"), ((0, 0), (0, 2), "xyz")],
        [((0, 3), (0, 5), "q")])


def spoil(value):
    """Change all lists in something, inner ones too."""
    if isinstance(value, (list, tuple)):
        for item in value:
            spoil(item)
    if isinstance(value, list):
        value.reverse()
        value.append("spoilt")


class HandedIn(unittest.TestCase):
    def test_edits_of_an_editor(self):
        editor = Editor()
        editor.take_up(0, SHEET)
        edits = [put("x"), put("y")]
        letters = editor.edit(0, edits)
        self.assertEqual(edits, [put("x"), put("y")])
        spoil(edits)
        self.assertEqual(letters, [(1, ("change", 0, 2, (put("x"), put("y"))))])
        self.assertEqual(editor.files(), [(0, 2, "yx" + SHEET)])

    def test_edits_that_places_are_moved_by(self):
        editor = Editor()
        editor.take_up(0, SHEET)
        editor.ask(0, WANTS[0])
        editor.hear((1, ("answer", 0, 1, list(TOLD[0]))))
        edits = [put("\n", (0, 3))]
        editor.edit(0, edits)
        edits.clear()
        self.assertEqual(editor.along(0), [(0, 0), (2, 0)])

    def test_answers_of_an_editor(self):
        for want, told in zip(WANTS, TOLD):
            editor = Editor()
            editor.take_up(0, SHEET)
            editor.ask(0, want)
            letter = (1, ("answer", 0, 1, copy.deepcopy(told)))
            was = copy.deepcopy(letter)
            editor.hear(letter)
            self.assertEqual(letter, was)
            spoil(letter)
            self.assertEqual(editor.shown(), [(0, 0, "now", told)])
            if want[0] == "rename":
                self.assertEqual(editor.take(0), [(1, ("change", 0, 2, tuple(told)))])
            elif want[0] != "rows":
                self.assertEqual(editor.along(0), told)

    def test_steps(self):
        steps = [("open", 0, SHEET), ("edit", 0, (put("x"),)), ("ask", 0, WANTS[0]), ("settle",), ("work", 0)]
        was = copy.deepcopy(steps)
        told, wire = played(steps)
        text = written(steps)
        self.assertEqual(steps, was)
        shown = whole(wire)
        spoil(steps)
        self.assertEqual(whole(wire), shown)
        self.assertEqual(read(text), was)

    def test_a_log(self):
        log = settled().told()
        was = copy.deepcopy(log)
        self.assertIsNone(judge(log))
        self.assertEqual(log, was)


def settled():
    """A wire on which all asks are answered."""
    wire = Wire()
    wire.do(("open", 0, SHEET))
    for want in WANTS:
        wire.do(("ask", 0, want))
    wire.settle()
    return wire


def answered():
    """An editor all of whose asks are answered."""
    editor = Editor()
    editor.take_up(0, SHEET)
    for number, (want, told) in enumerate(zip(WANTS, TOLD)):
        editor.ask(0, want)
        editor.hear((1, ("answer", number, 1, copy.deepcopy(told))))
    return editor


class WhatIsTold(unittest.TestCase):
    def test_of_an_editor(self):
        editor = answered()
        was = whole(editor)
        places = [editor.along(0), editor.along(2)]
        kept = copy.deepcopy((was, places))
        for told in (*was, *places):
            spoil(told)
        self.assertEqual((whole(editor), [editor.along(0), editor.along(2)]), kept)
        self.assertEqual(editor.take(3), [(1, ("change", 0, 2, tuple(TOLD[3])))])

    def test_letters_of_an_editor(self):
        editor = answered()
        letters = [editor.take_up(1, ""), editor.edit(1, [put("x")]), editor.ask(1, WANTS[0]), editor.call_off(5),
                   editor.take(3), editor.close(1)]
        editor.ask(0, WANTS[0])
        editor.fallen()
        letters.append(editor.begun())
        was = copy.deepcopy(whole(editor))
        spoil(letters)
        self.assertEqual(whole(editor), was)
        editor.fallen()
        self.assertEqual(editor.begun(), [(3, ("open", 0, 2, "xyz cd\nxyz")), (3, ("ask", 6, 0, WANTS[0]))])

    def test_of_a_helper(self):
        helper = Helper(1)
        helper.hear((1, ("open", 0, 1, SHEET)))
        for number in range(2):
            helper.hear((1, ("ask", number, 0, WANTS[0])))
        spoil(helper.waits())
        self.assertEqual(helper.waits(), [0, 1])
        spoil(helper.work(1))
        self.assertEqual(helper.work(0), (1, ("answer", 0, 1, TOLD[0])))

    def test_of_a_wire(self):
        wire = settled()
        was = copy.deepcopy((whole(wire), wire.along(0), wire.along(2)))
        for told in (*whole(wire), wire.along(0), wire.along(2)):
            spoil(told)
        self.assertEqual((whole(wire), wire.along(0), wire.along(2)), was)
        self.assertIsNone(judge(wire.told()))
        wire.do(("take", 3))
        self.assertEqual(wire.files(), [(0, 2, "xyz cd\nxyz")])

    def test_of_a_wire_while_letters_are_under_way(self):
        wire = Wire()
        wire.do(("open", 0, SHEET))
        wire.do(("edit", 0, (put("x"), put("y"))))
        wire.do(("ask", 0, WANTS[0]))
        spoil(wire.told())
        wire.settle()
        self.assertEqual(wire.shown(), [(0, 0, "now", [(0, 2), (1, 0)])])

    def test_of_plays(self):
        text = "open 0 ab\nask 0 find ab\nsettle"
        steps = read(text)
        spoil(steps)
        self.assertEqual(read(text), [("open", 0, "ab"), ("ask", 0, ("find", "ab")), ("settle",)])
        told, wire = played(read(text))
        spoil(told)
        self.assertEqual(wire.shown(), [(0, 0, "now", [(0, 0)])])


class AskedAgain(unittest.TestCase):
    def test_the_same_is_told(self):
        for thing in (answered(), settled()):
            self.assertEqual(whole(thing), whole(thing))
            self.assertEqual([thing.along(0), thing.along(2)], [thing.along(0), thing.along(2)])
        helper = Helper(1)
        helper.hear((1, ("open", 0, 1, SHEET)))
        helper.hear((1, ("ask", 0, 0, WANTS[0])))
        self.assertEqual(helper.waits(), helper.waits())
        steps = [("open", 0, SHEET), ("ask", 0, WANTS[0]), ("settle",)]
        self.assertEqual(played(steps)[0], played(steps)[0])
        self.assertEqual(written(steps), written(steps))


class OneAnother(unittest.TestCase):
    def test_editors(self):
        first, second = Editor(), Editor()
        first.take_up(0, SHEET)
        first.ask(0, WANTS[0])
        first.fallen()
        self.assertEqual((second.files(), second.shown()), ([], []))
        self.assertEqual(second.take_up(0, "q"), [(1, ("open", 0, 1, "q"))])
        self.assertEqual(second.ask(0, WANTS[0])[0], 0)
        self.assertEqual(first.files(), [(0, 1, SHEET)])

    def test_helpers(self):
        first, second = Helper(1), Helper(1)
        for helper, sheet in ((first, SHEET), (second, "q ab")):
            helper.hear((1, ("open", 0, 1, sheet)))
        first.hear((1, ("ask", 0, 0, WANTS[0])))
        self.assertEqual(second.waits(), [])
        second.hear((1, ("ask", 0, 0, WANTS[0])))
        self.assertEqual(first.work(0), (1, ("answer", 0, 1, TOLD[0])))
        self.assertEqual(second.work(0), (1, ("answer", 0, 1, [(0, 2)])))

    def test_two_helpers_of_one_editor(self):
        editor = Editor()
        letters = editor.take_up(0, SHEET) + editor.ask(0, WANTS[0])[1]
        helpers = (Helper(1), Helper(1))
        for helper in helpers:
            for letter in letters:
                helper.hear(letter)
        self.assertEqual(helpers[0].work(0), helpers[1].work(0))

    def test_wires(self):
        first, second = Wire(), settled()
        was = whole(second)
        first.do(("open", 0, "q"))
        first.do(("ask", 0, WANTS[0]))
        first.fall()
        self.assertEqual(whole(second), was)
        second.settle()
        second.do(("close", 0))
        self.assertEqual(first.files(), [(0, 1, "q")])
        self.assertEqual([row[2] for row in first.shown()], ["waits"])


if __name__ == "__main__":
    unittest.main()
