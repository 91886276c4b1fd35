"""The wire: an editor, its helper, and the letters between them."""

from helperwire.copies import copied
from helperwire.editor import Editor
from helperwire.errors import Fallen, NoAsk, NotFallen
from helperwire.helper import Helper


class Wire:
    """An editor and its helper, which is None while it has fallen.

    `outward` has the letters under way to the helper, `inward` those to the
    editor, `log` all that the editor told and heard.
    """

    def __init__(self):
        self.editor = Editor()
        self.helper = Helper(self.editor.birth)
        self.outward = []
        self.inward = []
        self.log = []

    def do(self, deed):
        """Do a deed of the editor; the number of an ask, else None."""
        if deed[0] != "ask":
            self.send(self.letters_of(deed))
            return None
        number, letters = self.editor.ask(deed[1], deed[2])
        self.send(letters)
        return number

    def carry(self):
        """The helper hears a letter, if there is one."""
        if not self.outward:
            return False
        self.helper.hear(self.outward.pop(0))
        return True

    def bring(self):
        """The editor hears a letter, if there is one."""
        if not self.inward:
            return False
        letter = self.inward.pop(0)
        self.log.append(("in", letter))
        self.editor.hear(letter)
        return True

    def work(self, at):
        """The helper answers the ask that waits there so manieth."""
        self.check_helper()
        numbers = self.helper.waits()
        if not 0 <= at < len(numbers):
            raise NoAsk("not so many asks wait")
        self.inward.append(self.helper.work(numbers[at]))

    def fall(self):
        """The helper falls, and what is under way is lost."""
        self.editor.fallen()
        self.helper = None
        self.outward.clear()
        self.inward.clear()

    def anew(self):
        """Another helper begins."""
        if self.helper is not None:
            raise NotFallen("the helper hasn't fallen")
        # Made first: if there can't be one of this birth, the editor must not have been told of it.
        helper = Helper(self.editor.birth + 1)
        self.send(self.editor.begun())
        self.helper = helper

    def settle(self):
        """All letters are carried, all asks answered, all letters brought."""
        self.check_helper()
        while self.carry():
            pass
        for number in self.helper.waits():
            self.inward.append(self.helper.work(number))
        while self.bring():
            pass

    def files(self):
        """All open files."""
        return self.editor.files()

    def shown(self):
        """All asks."""
        return self.editor.shown()

    def along(self, number):
        """The places of an answer, carried along with the sheet."""
        return self.editor.along(number)

    def told(self):
        """All letters as the editor told and heard them."""
        return copied(self.log)

    def check_helper(self):
        """Refuse what needs a helper while there is none."""
        if self.helper is None:
            raise Fallen("the helper has fallen")

    def letters_of(self, deed):
        """The letters that a deed tells, if it is no ask."""
        kind = deed[0]
        if kind == "open":
            return self.editor.take_up(deed[1], deed[2])
        if kind == "edit":
            return self.editor.edit(deed[1], deed[2])
        if kind == "close":
            return self.editor.close(deed[1])
        if kind == "off":
            return self.editor.call_off(deed[1])
        return self.editor.take(deed[1])

    def send(self, letters):
        """Put letters of the editor under way."""
        self.outward.extend(letters)
        self.log.extend([("out", letter) for letter in letters])
