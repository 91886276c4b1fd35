"""Point 11: the helper."""

import itertools
import unittest

from helperwire.errors import BadLetter, NoAsk, WireError
from helperwire.helper import Helper

SHEET = "ab cd\nab"


class Births(unittest.TestCase):
    def test_least_and_greatest(self):
        for birth in (1, 2, 10 ** 6):
            helper = Helper(birth)
            helper.hear((birth, ("open", 0, 1, "a")))
            helper.hear((birth, ("ask", 0, 0, ("find", "a"))))
            self.assertEqual(helper.work(0), (birth, ("answer", 0, 1, [(0, 0)])))

    def test_others(self):
        for birth in (0, -1, 10 ** 6 + 1, 10 ** 9):
            with self.assertRaises(BadLetter) as caught:
                Helper(birth)
            self.assertIsInstance(caught.exception, WireError)
            self.assertIsInstance(caught.exception, ValueError)

    def test_letters_of_other_births_are_nothing(self):
        helper = Helper(2)
        for birth in (1, 3):
            helper.hear((birth, ("open", 0, 1, "other")))
            helper.hear((birth, ("change", 0, 2, (((0, 0), (0, 0), "x"),))))
            helper.hear((birth, ("ask", 5, 0, ("find", "a"))))
        self.assertEqual(helper.waits(), [])
        for letter in (("open", 0, 4, "a"), ("ask", 5, 0, ("find", "a")), ("ask", 6, 0, ("find", "a"))):
            helper.hear((2, letter))
        for birth in (1, 3):
            helper.hear((birth, ("change", 0, 5, (((0, 0), (0, 0), "x"),))))
            helper.hear((birth, ("off", 5)))
            helper.hear((birth, ("close", 0)))
            helper.hear((birth, ("ask", 7, 0, ("find", "a"))))
        self.assertEqual(helper.waits(), [5, 6])
        self.assertEqual(helper.work(5), (2, ("answer", 5, 4, [(0, 0)])))


class Hearing(unittest.TestCase):
    """A helper of birth 1 whose file 3 has the sheet."""

    def setUp(self):
        self.helper = Helper(1)
        self.tell(("open", 3, 1, SHEET))

    def tell(self, *whats):
        for what in whats:
            self.assertIsNone(self.helper.hear((1, what)))

    def assert_tells(self, number, sheet_number, told):
        self.assertEqual(self.helper.work(number), (1, ("answer", number, sheet_number, told)))

    def assert_no_ask(self, *numbers):
        for number in numbers:
            was = self.helper.waits()
            with self.assertRaises(NoAsk) as caught:
                self.helper.work(number)
            self.assertIsInstance(caught.exception, WireError)
            self.assertEqual(self.helper.waits(), was)


class Waits(Hearing):
    def test_none_at_first(self):
        self.assertEqual(Helper(1).waits(), [])
        self.assertEqual(self.helper.waits(), [])
        self.assert_no_ask(-1, 0, 1)

    def test_rising(self):
        for number in (12, 3, 100, 7):
            self.tell(("ask", number, 3, ("find", "ab")))
        self.assertEqual(self.helper.waits(), [3, 7, 12, 100])
        self.assert_no_ask(-1, 0, 1, 4, 99, 101)

    def test_answered(self):
        self.tell(("ask", 0, 3, ("find", "ab")), ("ask", 1, 3, ("find", "ab")))
        self.helper.work(0)
        self.assertEqual(self.helper.waits(), [1])
        self.assert_no_ask(0)

    def test_called_off(self):
        self.tell(*[("ask", number, 3, ("find", "ab")) for number in range(3)], ("off", 1))
        self.assertEqual(self.helper.waits(), [0, 2])
        self.assert_no_ask(1)

    def test_called_off_behind_its_answer(self):
        self.tell(("ask", 0, 3, ("find", "ab")), ("ask", 1, 3, ("find", "ab")))
        self.helper.work(0)
        self.tell(("off", 0))
        self.assertEqual(self.helper.waits(), [1])

    def test_of_a_closed_file_and_of_one_opened_again(self):
        self.tell(("open", 4, 1, "ab"), ("ask", 0, 3, ("find", "ab")), ("ask", 1, 4, ("find", "ab")),
                  ("ask", 2, 3, ("find", "ab")), ("close", 3))
        self.assertEqual(self.helper.waits(), [1])
        self.assert_no_ask(0, 2)
        self.tell(("open", 3, 2, "ab"))
        self.assertEqual(self.helper.waits(), [1])
        self.assert_no_ask(0, 2)
        self.tell(("ask", 3, 3, ("find", "ab")))
        self.assertEqual(self.helper.waits(), [1, 3])
        self.assert_tells(3, 2, [(0, 0)])


class Work(Hearing):
    def test_each_kind_of_ask(self):
        cases = ((("find", "ab"), [(0, 0), (1, 0)]), (("rows", "ab"), [0, 1]), (("word", (0, 4)), ((0, 3), (0, 5))),
                 (("rename", (0, 1), "xyz"), [((1, 0), (1, 2), "xyz"), ((0, 0), (0, 2), "xyz")]), (("find", "q"), []))
        for number, (want, told) in enumerate(cases):
            self.tell(("ask", number, 3, want))
            self.assert_tells(number, 1, told)

    def test_in_any_order(self):
        wants = (("find", "ab"), ("rows", "cd"), ("word", (1, 0)))
        told = ([(0, 0), (1, 0)], [0], ((1, 0), (1, 2)))
        for order in itertools.permutations(range(3)):
            self.setUp()
            self.tell(*[("ask", number, 3, wants[number]) for number in range(3)])
            for number in order:
                self.assert_tells(number, 1, told[number])
            self.assertEqual(self.helper.waits(), [])

    def test_by_the_sheet_as_it_stands(self):
        self.tell(("ask", 0, 3, ("find", "ab")), ("ask", 1, 3, ("find", "ab")), ("ask", 2, 3, ("find", "ab")))
        self.assert_tells(2, 1, [(0, 0), (1, 0)])
        self.tell(("change", 3, 2, (((0, 0), (0, 0), "ab"), ((1, 0), (1, 2), ""))))
        self.assert_tells(1, 2, [(0, 0), (0, 2)])
        self.tell(("change", 3, 3, ()), ("change", 3, 4, (((0, 0), (0, 4), ""),)))
        self.assert_tells(0, 4, [])

    def test_by_its_own_file(self):
        self.tell(("open", 4, 7, " ab"), ("ask", 0, 3, ("find", "ab")), ("ask", 1, 4, ("find", "ab")),
                  ("change", 3, 2, (((0, 0), (0, 2), ""),)))
        self.assert_tells(1, 7, [(0, 1)])
        self.assert_tells(0, 2, [(1, 0)])

    def test_a_place_that_this_sheet_hasnt(self):
        for want in (("word", (1, 1)), ("rename", (1, 1), "q")):
            self.setUp()
            self.tell(("ask", 0, 3, want), ("ask", 1, 3, want), ("ask", 2, 3, want),
                      ("change", 3, 2, (((0, 5), (1, 2), ""),)))
            self.assert_tells(0, 2, None)
            self.tell(("change", 3, 3, (((0, 5), (0, 5), "\n"),)))
            self.assert_tells(1, 3, None)
            self.tell(("change", 3, 4, (((1, 0), (1, 0), "abc"),)))
            told = ((1, 0), (1, 3)) if want[0] == "word" else [((1, 0), (1, 3), "q")]
            self.assert_tells(2, 4, told)


if __name__ == "__main__":
    unittest.main()
