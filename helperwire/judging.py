"""Judging rows of letters."""

from helperwire.asks import helper_answer
from helperwire.errors import BadEdit
from helperwire.openfiles import MOST_FILES, OpenFile


def judge(log):
    """The number of the first letter that can't be, None if there is none."""
    court = Court()
    for at, (way, letter) in enumerate(log):
        lets = court.lets_editor(letter) if way == "out" else court.lets_helper(letter)
        if not lets:
            return at
    return None


class KnownAsk:
    """An ask that a helper may still answer.

    `home` is the file as it was open when it was asked, so it changes with
    the file till that is closed; a file that is opened again is another one.
    `since` is the number that the file had then.
    """

    def __init__(self, want, home):
        self.want = want
        self.home = home
        self.since = home.number
        self.off = False

    def can_tell(self, number, told):
        """Whether a helper can tell this of the sheet with this number."""
        if not self.since <= number <= self.home.number:
            return False
        return helper_answer(self.home.sheet_at(number), self.want) == told


class Court:
    """What is known of the letters so far.

    Each method that takes a letter, or its parts, tells whether it can be,
    and takes note of it if so.
    """

    def __init__(self):
        self.birth = 1
        self.open_files = {}
        self.known = {}

    def lets_editor(self, letter):
        """An editor's letter."""
        birth, what = letter
        kind = what[0]
        if kind == "open" and birth > self.birth:
            self.start(birth)
        if birth != self.birth:
            return False
        if kind == "open":
            return self.lets_open(what[1], what[2], what[3])
        if kind == "change":
            return self.lets_change(what[1], what[2], what[3])
        if kind == "close":
            return self.lets_close(what[1])
        if kind == "ask":
            return self.lets_ask(what[1], what[2], what[3])
        return self.lets_off(what[1])

    def start(self, birth):
        """Another helper begins, which has heard nothing yet."""
        self.birth = birth
        self.open_files = {}
        self.known = {}

    def lets_open(self, file, number, sheet):
        """A file is opened; its number may be any."""
        if file in self.open_files or len(self.open_files) == MOST_FILES:
            return False
        self.open_files[file] = OpenFile(number, sheet)
        return True

    def lets_change(self, file, number, edits):
        """A file is changed."""
        if file not in self.open_files:
            return False
        home = self.open_files[file]
        if number != home.number + 1:
            return False
        try:
            home.change(edits)
        except BadEdit:
            return False
        return True

    def lets_close(self, file):
        """A file is closed; its asks stay known, for their answers may be under way."""
        if file not in self.open_files:
            return False
        del self.open_files[file]
        return True

    def lets_ask(self, number, file, want):
        """An ask is asked."""
        if file not in self.open_files or number in self.known:
            return False
        self.known[number] = KnownAsk(want, self.open_files[file])
        return True

    def lets_off(self, number):
        """An ask is called off; it stays known, for its answer may be under way."""
        if number not in self.known:
            return False
        known = self.known[number]
        if known.off:
            return False
        known.off = True
        return True

    def lets_helper(self, letter):
        """A helper's letter."""
        birth, what = letter
        if birth != self.birth:
            return birth < self.birth
        asked, number, told = what[1:]
        if asked not in self.known or not self.known[asked].can_tell(number, told):
            return False
        del self.known[asked]
        return True
