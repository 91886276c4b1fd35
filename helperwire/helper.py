"""The helper: its copies of the sheets, and the asks that it answers."""

from helperwire.asks import helper_answer
from helperwire.errors import BadLetter, NoAsk
from helperwire.openfiles import OpenFile

LAST_BIRTH = 1000000


class Helper:
    """A helper; `copied_files` has its copies, `asked` a pair (file, ask) for each number that waits."""

    def __init__(self, birth):
        if not 1 <= birth <= LAST_BIRTH:
            raise BadLetter("no birth")
        self.birth = birth
        self.copied_files = {}
        self.asked = {}

    def hear(self, letter):
        """Hear an editor's letter."""
        birth, what = letter
        if birth != self.birth:
            return
        kind = what[0]
        if kind == "open":
            self.copied_files[what[1]] = OpenFile(what[2], what[3])
        elif kind == "change":
            self.copied_files[what[1]].change(what[3])
        elif kind == "close":
            self.forget(what[1])
        elif kind == "ask":
            self.asked[what[1]] = (what[2], what[3])
        else:
            # It may be answered already, while this letter was under way.
            self.asked.pop(what[1], None)

    def forget(self, file):
        """Have no copy of a file any more, and none of its asks."""
        del self.copied_files[file]
        self.asked = {number: self.asked[number] for number in self.asked if self.asked[number][0] != file}

    def waits(self):
        """The numbers of all asks that wait."""
        return sorted(self.asked)

    def work(self, number):
        """Answer an ask that waits; the letter that tells it."""
        if number not in self.asked:
            raise NoAsk("no such ask waits")
        file, want = self.asked.pop(number)
        home = self.copied_files[file]
        return (self.birth, ("answer", number, home.number, helper_answer(home.sheet, want)))
