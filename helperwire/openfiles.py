"""Files while they are open."""

from helperwire.sheets import edited, moved

MOST_FILES = 4


class OpenFile:
    """A file from one opening of it till it is closed.

    `number` and `sheet` are those that stand; `past` has a pair (sheet,
    edits) for each number ahead, rising: the sheet, and what was done on it.
    """

    def __init__(self, number, sheet):
        self.number = number
        self.sheet = sheet
        self.past = []
        self.shut = False

    def change(self, edits):
        """Do the edits; BadEdit is refused."""
        done = tuple(edits)
        after = edited(self.sheet, done)
        self.past.append((self.sheet, done))
        self.sheet = after
        self.number += 1

    def past_from(self, number):
        """The pairs of `past` from a number on that the file has, or had since it was opened."""
        return self.past[len(self.past) - (self.number - number):]

    def sheet_at(self, number):
        """The sheet with a number that the file has, or had since it was opened."""
        past = self.past_from(number)
        return past[0][0] if past else self.sheet

    def moved_from(self, number, place):
        """Where a place of the sheet with this number is now, None if it was taken out."""
        for sheet, edits in self.past_from(number):
            if place is None:
                return None
            place = moved(sheet, edits, place)
        return place
