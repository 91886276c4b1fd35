"""All refusals of the program."""


class WireError(ValueError):
    """Any refusal."""


class BadSheet(WireError):
    """A text that is no sheet."""


class BadPlace(WireError):
    """A place, or a number of signs, that a sheet hasn't."""


class BadEdit(WireError):
    """A list of edits; `number` is that of the first one that can't be."""

    def __init__(self, number):
        super().__init__(f"edit {number} can't be")
        self.number = number


class BadFile(WireError):
    """A number that is no file."""


class Opened(WireError):
    """A file that is open already."""


class NoFile(WireError):
    """A file that isn't open."""


class TooMany(WireError):
    """One file or one ask more than there may be."""


class BadAsk(WireError):
    """What is no ask, or an ask of another kind than is needed."""


class NoAsk(WireError):
    """An ask that isn't there, or isn't in the needed state."""


class Old(WireError):
    """An answer that was told of an old sheet."""


class Fallen(WireError):
    """The helper has fallen."""


class NotFallen(WireError):
    """The helper hasn't fallen."""


class BadLetter(WireError):
    """A birth that no helper can have."""


class BadText(WireError):
    """A text of steps; `row` is the number of the first row that is no step."""

    def __init__(self, row):
        super().__init__(f"row {row} is no step")
        self.row = row
