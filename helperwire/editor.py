"""The editor: its files, its asks, and its letters to the helper."""

from helperwire.asks import answer_of
from helperwire.copies import copied
from helperwire.errors import BadAsk, BadFile, Fallen, NoAsk, NoFile, NotFallen, Old, Opened, TooMany
from helperwire.openfiles import MOST_FILES, OpenFile
from helperwire.sheets import check_sheet

LAST_FILE = 9
MOST_WAITING = 10


class EditorAsk:
    """An ask; `state` is "waits", "off", "gone" or "answered".

    `home` is the file as it was open when it was asked; a file that is
    opened again is another one. `number` and `answer` are the sheet's number
    and what is told, if it is answered.
    """

    def __init__(self, file, want, home):
        self.file = file
        self.want = want
        self.home = home
        self.state = "waits"
        self.number = None
        self.answer = None

    def take_answer(self, number, answer):
        """Be answered."""
        self.state = "answered"
        self.number = number
        self.answer = answer

    def is_now(self):
        """Whether it is answered by the sheet that stands."""
        return self.state == "answered" and not self.home.shut and self.home.number == self.number

    def state_shown(self):
        """The state as others see it."""
        if self.state != "answered":
            return self.state
        return "now" if self.is_now() else "old"


class Editor:
    """An editor, which has files, and asks its helper.

    `open_files` has the files that are open, `closed_at` the number that
    each one had when it was closed last, `asks` all asks by their numbers.
    """

    def __init__(self):
        self.birth = 1
        self.down = False
        self.open_files = {}
        self.closed_at = {}
        self.asks = []

    def take_up(self, file, sheet):
        """Open a file."""
        check_file(file)
        if file in self.open_files:
            raise Opened("the file is open")
        check_sheet(sheet)
        if len(self.open_files) == MOST_FILES:
            raise TooMany("as many files as can be are open")
        self.open_files[file] = OpenFile(self.closed_at.get(file, 0) + 1, sheet)
        return self.letters([self.opening(file)])

    def edit(self, file, edits):
        """Do edits."""
        home = self.open_file(file)
        home.change(edits)
        return self.letters([("change", file, home.number, tuple(edits))])

    def close(self, file):
        """Close a file."""
        home = self.open_file(file)
        home.shut = True
        self.closed_at[file] = home.number
        del self.open_files[file]
        for asked in self.asks:
            if asked.file == file and asked.state == "waits":
                asked.state = "gone"
        return self.letters([("close", file)])

    def ask(self, file, want):
        """Ask of a file; the ask's number, and the letters."""
        home = self.open_file(file)
        # What it tells isn't needed here, only what it refuses.
        answer_of(home.sheet, want)
        if len(self.waiting()) == MOST_WAITING:
            raise TooMany("as many asks as can be wait")
        self.asks.append(EditorAsk(file, want, home))
        number = len(self.asks) - 1
        return (number, self.letters([self.asking(number)]))

    def call_off(self, number):
        """Call off an ask that waits."""
        asked = self.ask_in_state(number, "waits")
        asked.state = "off"
        return self.letters([("off", number)])

    def hear(self, letter):
        """Hear a helper's letter."""
        birth, what = letter
        number, sheet_number, told = what[1:]
        if birth == self.birth and not self.down and self.is_in_state(number, "waits"):
            self.asks[number].take_answer(sheet_number, copied(told))

    def fallen(self):
        """The helper has fallen."""
        if self.down:
            raise Fallen("the helper has fallen already")
        self.down = True

    def begun(self):
        """Another helper has begun, which knows nothing yet."""
        if not self.down:
            raise NotFallen("the helper hasn't fallen")
        self.down = False
        self.birth += 1
        openings = [self.opening(file) for file in sorted(self.open_files)]
        return self.letters(openings + [self.asking(number) for number in self.waiting()])

    def files(self):
        """All open files."""
        homes = self.open_files
        return [(file, homes[file].number, homes[file].sheet) for file in sorted(homes)]

    def shown(self):
        """All asks."""
        return [(number, asked.file, asked.state_shown(), copied(asked.answer))
                for number, asked in enumerate(self.asks)]

    def along(self, number):
        """The places of an answer, carried along with the sheet."""
        asked = self.ask_in_state(number, "answered")
        if asked.want[0] not in ("find", "word"):
            raise BadAsk("no ask for places")
        if asked.home.shut:
            raise NoFile("the file was closed since")
        if asked.answer is None:
            return None
        places = [asked.home.moved_from(asked.number, place) for place in asked.answer]
        return places if asked.want[0] == "find" else tuple(places)

    def take(self, number):
        """Do the edits of an answer."""
        asked = self.ask_in_state(number, "answered")
        if asked.want[0] != "rename" or asked.answer is None:
            raise BadAsk("no edits were told")
        if not asked.is_now():
            raise Old("the edits are of an old sheet")
        return self.edit(asked.file, asked.answer)

    def open_file(self, file):
        """The file, if it is open."""
        check_file(file)
        if file not in self.open_files:
            raise NoFile("the file isn't open")
        return self.open_files[file]

    def waiting(self):
        """The numbers of all asks that wait, rising."""
        return [number for number, asked in enumerate(self.asks) if asked.state == "waits"]

    def is_in_state(self, number, state):
        """Whether there is such an ask, in this state."""
        return 0 <= number < len(self.asks) and self.asks[number].state == state

    def ask_in_state(self, number, state):
        """The ask, if it is in this state."""
        if not self.is_in_state(number, state):
            raise NoAsk("no such ask")
        return self.asks[number]

    def opening(self, file):
        """What a letter says of a file that is opened as it stands."""
        home = self.open_files[file]
        return ("open", file, home.number, home.sheet)

    def asking(self, number):
        """What a letter says of an ask."""
        asked = self.asks[number]
        return ("ask", number, asked.file, asked.want)

    def letters(self, whats):
        """Letters that say this; none if there is no helper to tell."""
        if self.down:
            return []
        return [(self.birth, what) for what in whats]


def check_file(file):
    """Refuse a number that is no file."""
    if not 0 <= file <= LAST_FILE:
        raise BadFile("no file")
