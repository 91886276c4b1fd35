"""Points 12 and 13: the wire, and what holds of every wire."""

import random
import unittest

from chance import do_step, some_step
from helperwire.asks import answer_of
from helperwire.errors import (BadAsk, BadEdit, BadFile, BadLetter, BadPlace, BadSheet, Fallen, NoAsk, NoFile,
                               NotFallen, Old, Opened, TooMany, WireError)
from helperwire.judging import judge
from helperwire.sheets import number_of
from helperwire.wire import Wire
from support import Refusing, put, whole

SHEET = "ab cd\nab"
FIND = ("find", "ab")
FOUND = [(0, 0), (1, 0)]
RENAME = ("rename", (0, 1), "xyz")
RENAMED = [((1, 0), (1, 2), "xyz"), ((0, 0), (0, 2), "xyz")]


def out(what, birth=1):
    return ("out", (birth, what))


def heard(number, sheet_number, told, birth=1):
    return ("in", (birth, ("answer", number, sheet_number, told)))


class Wired(Refusing):
    def setUp(self):
        self.wire = Wire()

    def do(self, *deeds):
        return [self.wire.do(deed) for deed in deeds]

    def carry(self, many):
        for _ in range(many):
            self.assertIs(self.wire.carry(), True)

    def bring(self, many):
        for _ in range(many):
            self.assertIs(self.wire.bring(), True)

    def states(self):
        return [row[2] for row in self.wire.shown()]

    def refuses(self, error, name, *arguments):
        return self.assert_refuses(error, self.wire, name, *arguments)


class New(Wired):
    def test_nothing_is_there(self):
        self.assertEqual((self.wire.files(), self.wire.shown(), self.wire.told()), ([], [], []))
        self.assertIs(self.wire.carry(), False)
        self.assertIs(self.wire.bring(), False)
        self.refuses(NoAsk, "work", 0)
        self.refuses(NotFallen, "anew")
        self.refuses(NoAsk, "along", 0)
        self.assertIsNone(self.wire.settle())
        self.assertEqual((self.wire.files(), self.wire.shown(), self.wire.told()), ([], [], []))


class Deeds(Wired):
    def test_each_deed(self):
        edits = (put("x"), put("\n", (0, 1)))
        self.assertEqual(self.do(("open", 3, SHEET), ("edit", 3, edits), ("edit", 3, ()), ("ask", 3, FIND),
                                 ("ask", 3, RENAME), ("off", 0)), [None, None, None, 0, 1, None])
        self.assertEqual(self.wire.files(), [(3, 3, "x\n" + SHEET)])
        self.assertEqual(self.wire.shown(), [(0, 3, "off", None), (1, 3, "waits", None)])
        self.assertEqual(self.do(("close", 3)), [None])
        self.assertEqual((self.wire.files(), self.states()), ([], ["off", "gone"]))
        self.assertEqual(self.wire.told(), [
            out(("open", 3, 1, SHEET)), out(("change", 3, 2, edits)), out(("change", 3, 3, ())),
            out(("ask", 0, 3, FIND)), out(("ask", 1, 3, RENAME)), out(("off", 0)), out(("close", 3))])

    def test_take(self):
        self.do(("open", 3, SHEET), ("ask", 3, RENAME))
        self.wire.settle()
        self.assertEqual(self.do(("take", 0)), [None])
        self.assertEqual(self.wire.files(), [(3, 2, "xyz cd\nxyz")])
        self.assertEqual(self.wire.shown(), [(0, 3, "old", RENAMED)])
        self.assertEqual(self.wire.told()[-1], out(("change", 3, 2, tuple(RENAMED))))

    def refuse_all(self):
        """The file 3 is open, the ask 0 is called off, 1 is an old answer for a rename, 2 a find's."""
        for deed in (("open", 10, ""), ("edit", -1, ()), ("close", 10), ("ask", -1, FIND)):
            self.refuses(BadFile, "do", deed)
        self.refuses(Opened, "do", ("open", 3, "\t"))
        self.refuses(BadSheet, "do", ("open", 4, "\t"))
        for deed in (("edit", 4, ()), ("close", 4), ("ask", 4, FIND)):
            self.refuses(NoFile, "do", deed)
        self.assertEqual(self.refuses(BadEdit, "do", ("edit", 3, (put("x"), ()))).number, 1)
        self.refuses(BadAsk, "do", ("ask", 3, ("find",)))
        self.refuses(BadPlace, "do", ("ask", 3, ("word", (9, 9))))
        for deed in (("off", 0), ("off", 1), ("off", 9), ("off", -1), ("take", 0), ("take", 9), ("take", -1)):
            self.refuses(NoAsk, "do", deed)
        self.refuses(BadAsk, "do", ("take", 2))
        self.refuses(Old, "do", ("take", 1))

    def test_refused_as_the_editors(self):
        self.do(("open", 3, SHEET), ("ask", 3, FIND), ("off", 0), ("ask", 3, RENAME), ("ask", 3, FIND))
        self.wire.settle()
        self.do(("edit", 3, ()))
        self.refuse_all()
        self.wire.fall()
        self.refuse_all()

    def test_too_many(self):
        self.do(*[("open", file, "") for file in range(4)], *[("ask", 0, FIND)] * 10)
        self.refuses(TooMany, "do", ("open", 4, ""))
        self.refuses(TooMany, "do", ("ask", 0, FIND))

    def test_refused_ones_put_nothing_under_way(self):
        self.do(("open", 3, SHEET))
        for deed in (("open", 3, ""), ("edit", 3, ((),)), ("ask", 3, ()), ("off", 0), ("take", 0), ("close", 4)):
            with self.assertRaises(WireError):
                self.wire.do(deed)
        self.carry(1)
        self.assertIs(self.wire.carry(), False)
        self.assertEqual(self.do(("ask", 3, FIND)), [0])

    def test_while_the_helper_has_fallen(self):
        self.do(("open", 3, SHEET), ("ask", 3, RENAME))
        self.wire.settle()
        told = self.wire.told()
        self.wire.fall()
        self.assertEqual(self.do(("take", 0), ("open", 4, "q"), ("edit", 4, (put("x"),)), ("ask", 4, FIND),
                                 ("ask", 3, FIND), ("off", 1), ("close", 4)), [None, None, None, 1, 2, None, None])
        self.assertEqual(self.wire.files(), [(3, 2, "xyz cd\nxyz")])
        self.assertEqual(self.states(), ["old", "off", "waits"])
        self.assertEqual(self.wire.told(), told)
        self.assertIs(self.wire.carry(), False)
        self.assertIs(self.wire.bring(), False)


class UnderWay(Wired):
    def test_in_turn(self):
        self.do(("open", 3, SHEET), ("ask", 3, FIND), ("edit", 3, (put("ab"),)), ("ask", 3, FIND))
        self.refuses(NoAsk, "work", 0)
        self.carry(1)
        self.refuses(NoAsk, "work", 0)
        self.carry(1)
        self.assertIsNone(self.wire.work(0))
        self.refuses(NoAsk, "work", 0)
        self.carry(2)
        self.assertIs(self.wire.carry(), False)
        self.assertIsNone(self.wire.work(0))
        self.assertEqual(self.states(), ["waits", "waits"])
        self.bring(1)
        self.assertEqual(self.wire.shown(), [(0, 3, "old", FOUND), (1, 3, "waits", None)])
        self.bring(1)
        self.assertIs(self.wire.bring(), False)
        self.assertEqual(self.wire.shown()[1], (1, 3, "now", [(0, 0), (0, 2), (1, 0)]))

    def test_so_manieth(self):
        self.do(("open", 3, SHEET), *[("ask", 3, FIND)] * 5)
        self.carry(6)
        for at in (5, 6, 99, -1, -5):
            self.refuses(NoAsk, "work", at)
        for at, number in ((4, 4), (1, 1), (1, 2), (0, 0), (0, 3)):
            self.wire.work(at)
            self.bring(1)
            self.assertEqual(self.wire.told()[-1], heard(number, 1, FOUND))
        for at in (0, 1, -1):
            self.refuses(NoAsk, "work", at)

    def test_an_ask_called_off_while_its_answer_is_under_way(self):
        self.do(("open", 3, SHEET), ("ask", 3, FIND))
        self.carry(2)
        self.wire.work(0)
        self.do(("off", 0))
        self.bring(1)
        self.carry(1)
        self.assertEqual(self.wire.shown(), [(0, 3, "off", None)])
        self.assertEqual(self.wire.told()[-2:], [out(("off", 0)), heard(0, 1, FOUND)])

    def test_a_file_closed_and_opened_again_while_an_answer_is_under_way(self):
        self.do(("open", 3, SHEET), ("ask", 3, FIND))
        self.carry(2)
        self.wire.work(0)
        self.do(("close", 3), ("open", 3, SHEET), ("ask", 3, FIND))
        self.bring(1)
        self.wire.settle()
        self.assertEqual(self.wire.shown(), [(0, 3, "gone", None), (1, 3, "now", FOUND)])
        self.assertIsNone(judge(self.wire.told()))

    def test_a_place_that_is_there_no_more(self):
        self.do(("open", 3, SHEET), ("ask", 3, ("word", (1, 1))), ("ask", 3, ("rename", (1, 1), "q")),
                ("edit", 3, (((0, 0), (1, 2), ""),)))
        self.wire.settle()
        self.assertEqual(self.wire.shown(), [(0, 3, "now", None), (1, 3, "now", None)])
        self.refuses(BadAsk, "do", ("take", 1))
        self.assertIsNone(self.wire.along(0))


class Falls(Wired):
    def test_refused_while_fallen(self):
        self.do(("open", 3, SHEET), ("ask", 3, FIND))
        self.carry(2)
        self.assertIsNone(self.wire.fall())
        self.refuses(Fallen, "fall")
        self.refuses(Fallen, "settle")
        for at in (-1, 0, 1):
            self.refuses(Fallen, "work", at)
        self.assertIsNone(self.wire.anew())
        self.refuses(NotFallen, "anew")

    def test_letters_to_the_helper_are_lost(self):
        self.do(("open", 3, SHEET), ("ask", 3, FIND), ("edit", 3, (put("x"),)))
        self.carry(1)
        self.wire.fall()
        self.assertIs(self.wire.carry(), False)
        self.wire.anew()
        self.carry(2)
        self.assertIs(self.wire.carry(), False)
        self.wire.settle()
        self.assertEqual(self.wire.shown(), [(0, 3, "now", [(0, 1), (1, 0)])])
        self.assertEqual(self.wire.told(), [
            out(("open", 3, 1, SHEET)), out(("ask", 0, 3, FIND)), out(("change", 3, 2, (put("x"),))),
            out(("open", 3, 2, "x" + SHEET), 2), out(("ask", 0, 3, FIND), 2), heard(0, 2, [(0, 1), (1, 0)], 2)])

    def test_letters_to_the_editor_are_lost(self):
        self.do(("open", 3, SHEET), ("ask", 3, FIND), ("ask", 3, RENAME))
        self.carry(3)
        self.wire.work(0)
        self.wire.work(0)
        self.bring(1)
        self.wire.fall()
        self.assertIs(self.wire.bring(), False)
        self.assertEqual(self.states(), ["now", "waits"])
        self.wire.anew()
        self.assertIs(self.wire.bring(), False)
        self.refuses(NoAsk, "work", 0)
        self.carry(2)
        self.wire.work(0)
        self.refuses(NoAsk, "work", 0)
        self.bring(1)
        self.assertEqual(self.wire.shown(), [(0, 3, "now", FOUND), (1, 3, "now", RENAMED)])

    def test_another_helper_knows_all_that_stands(self):
        self.do(("open", 7, "a"), ("open", 2, "b"), ("ask", 7, ("find", "a")), ("ask", 2, ("find", "b")))
        self.wire.fall()
        self.do(("close", 7), ("open", 5, "c"), ("edit", 2, (put("b"),)), ("ask", 5, ("rows", "c")))
        before = self.wire.told()
        self.wire.anew()
        self.assertEqual(self.wire.told()[len(before):], [
            out(("open", 2, 2, "bb"), 2), out(("open", 5, 1, "c"), 2), out(("ask", 1, 2, ("find", "b")), 2),
            out(("ask", 2, 5, ("rows", "c")), 2)])
        self.wire.settle()
        self.assertEqual(self.wire.shown(), [(0, 7, "gone", None), (1, 2, "now", [(0, 0), (0, 1)]), (2, 5, "now", [0])])

    def test_many_falls(self):
        for birth in range(2, 40):
            self.wire.fall()
            self.wire.anew()
        self.do(("open", 0, "a"))
        self.assertEqual(self.wire.told(), [out(("open", 0, 1, "a"), 39)])
        self.assertIsNone(judge(self.wire.told()))

    def test_no_helper_of_a_birth_beyond(self):
        # A million falls would come to the same, but take long.
        self.wire.editor.birth = 10 ** 6 - 1
        self.wire.fall()
        self.wire.anew()
        self.do(("open", 0, "a"))
        self.assertEqual(self.wire.told(), [out(("open", 0, 1, "a"), 10 ** 6)])
        self.refuses(NotFallen, "anew")
        self.wire.fall()
        self.refuses(BadLetter, "anew")
        self.refuses(BadLetter, "anew")
        self.refuses(Fallen, "settle")


class Settle(Wired):
    def test_least_number_first_behind_what_is_under_way(self):
        self.do(("open", 3, SHEET), *[("ask", 3, FIND)] * 4)
        self.carry(5)
        self.wire.work(2)
        self.do(("edit", 3, ()), ("ask", 3, FIND), ("off", 1))
        before = self.wire.told()
        self.assertIsNone(self.wire.settle())
        self.assertEqual(self.wire.told()[len(before):],
                         [heard(2, 1, FOUND), heard(0, 2, FOUND), heard(3, 2, FOUND), heard(4, 2, FOUND)])
        self.assertEqual(self.states(), ["now", "off", "old", "now", "now"])
        self.assertIs(self.wire.carry(), False)
        self.assertIs(self.wire.bring(), False)
        self.refuses(NoAsk, "work", 0)

    def test_twice(self):
        self.do(("open", 3, SHEET), ("ask", 3, FIND))
        self.wire.settle()
        was = whole(self.wire)
        self.assertIsNone(self.wire.settle())
        self.assertEqual(whole(self.wire), was)


class Told(Wired):
    def test_both_ways_as_the_editor_told_and_heard_them(self):
        self.do(("open", 3, SHEET), ("ask", 3, FIND))
        self.carry(2)
        self.wire.work(0)
        log = [out(("open", 3, 1, SHEET)), out(("ask", 0, 3, FIND))]
        self.assertEqual(self.wire.told(), log)
        self.do(("edit", 3, (put("x"),)))
        self.bring(1)
        self.do(("close", 3))
        log += [out(("change", 3, 2, (put("x"),))), heard(0, 1, FOUND), out(("close", 3))]
        self.assertEqual(self.wire.told(), log)
        self.carry(2)
        self.assertEqual(self.wire.told(), log)

    def test_along(self):
        self.do(("open", 3, SHEET), ("ask", 3, FIND), ("ask", 3, ("rows", "a")), ("ask", 3, ("word", (1, 0))))
        self.refuses(NoAsk, "along", 0)
        self.wire.settle()
        self.do(("edit", 3, (put("\n", (0, 5)),)))
        self.assertEqual(self.wire.along(0), [(0, 0), (2, 0)])
        self.assertEqual(self.wire.along(2), ((2, 0), (2, 2)))
        self.refuses(BadAsk, "along", 1)
        self.do(("close", 3))
        self.refuses(NoFile, "along", 0)


class EveryWire(unittest.TestCase):
    """Point 13, by many steps; what is shown is found again from the deeds and the letters alone."""

    def setUp(self):
        self.wire = Wire()
        self.asks = []
        self.closed = {}
        self.answers = {}
        self.off = set()

    def note(self, step, told):
        """Take note of a step that wasn't refused."""
        if step[0] == "ask":
            self.assertEqual(told, len(self.asks))
            self.asks.append((step[1], step[2]))
        elif step[0] == "close":
            for number, (file, want) in enumerate(self.asks):
                if file == step[1]:
                    self.closed[number] = number not in self.answers and number not in self.off
        elif step[0] == "off":
            self.off.add(step[1])
        for way, (birth, what) in self.wire.told()[self.seen:]:
            number = what[1]
            if way == "in" and number not in self.off and number not in self.closed and number not in self.answers:
                self.answers[number] = what[2:]
        self.seen = len(self.wire.told())

    def expected(self, number):
        """The row of an ask in `shown`."""
        file = self.asks[number][0]
        if number in self.answers:
            numbers = {row[0]: row[1] for row in self.wire.files()}
            sheet_number, told = self.answers[number]
            now = number not in self.closed and numbers[file] == sheet_number
            return (number, file, "now" if now else "old", told)
        state = "off" if number in self.off else "gone" if number in self.closed else "waits"
        return (number, file, state, None)

    def check_now(self):
        sheets = {row[0]: row[2] for row in self.wire.files()}
        for number, file, state, told in self.wire.shown():
            if state == "now":
                want = self.asks[number][1]
                self.assertEqual(told, self.told_by(sheets[file], want))

    def told_by(self, sheet, want):
        if want[0] in ("word", "rename"):
            try:
                number_of(sheet, want[1])
            except WireError:
                return None
        return answer_of(sheet, want)

    def play(self, chance, many):
        self.setUp()
        self.seen = 0
        tally = {}
        for _ in range(many):
            step = some_step(chance, self.wire)
            was = whole(self.wire)
            try:
                told = do_step(self.wire, step)
            except WireError as error:
                self.assertEqual(whole(self.wire), was)
                tally[type(error).__name__] = True
                continue
            self.note(step, told)
            self.assertEqual(self.wire.shown(), [self.expected(number) for number in range(len(self.asks))])
            self.check_now()
            states = [row[2] for row in self.wire.shown()]
            tally.update((state, True) for state in states)
            if step[0] == "settle":
                self.assertNotIn("waits", states)
        self.assertIsNone(judge(self.wire.told()))
        return tally

    def test_many_steps_of_all_kinds(self):
        chance = random.Random(20)
        seen = {}
        for _ in range(60):
            seen.update(self.play(chance, 150))
        # These steps would show little if some kind of end never came.
        self.assertLessEqual({"waits", "off", "gone", "now", "old", "BadSheet", "BadEdit", "BadFile", "Opened", "NoFile",
                              "TooMany", "BadAsk", "BadPlace", "NoAsk", "Old", "Fallen", "NotFallen"}, set(seen))


if __name__ == "__main__":
    unittest.main()
