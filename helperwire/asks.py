"""Asks, and what is told of them by a sheet."""

from helperwire.errors import BadAsk, BadPlace
from helperwire.sheets import MOST_EDITS, MOST_SIGNS, check_sheet, is_two_numbers, number_in, place_in

MOST_LETTERS = 8


def answer_of(sheet, want):
    """What is told of a sheet and an ask."""
    check_sheet(sheet)
    if not is_ask(want):
        raise BadAsk("no ask")
    if want[0] == "find":
        return places_with(sheet, want[1])
    if want[0] == "rows":
        return rows_with(sheet, want[1])
    at = number_in(sheet, want[1])
    if want[0] == "word":
        return ends_of_run(sheet, at)
    return renaming(sheet, at, want[2])


def helper_answer(sheet, want):
    """What a helper tells: its copy may be another sheet than the editor's, without the ask's place."""
    try:
        return answer_of(sheet, want)
    except BadPlace:
        return None


def is_ask(want):
    """Whether this is an ask, of whatever sheet its place may be."""
    if not isinstance(want, tuple) or len(want) < 2:
        return False
    if want[0] in ("find", "rows"):
        return len(want) == 2 and is_word(want[1])
    if want[0] == "word":
        return len(want) == 2 and is_two_numbers(want[1])
    return want[0] == "rename" and len(want) == 3 and is_two_numbers(want[1]) and is_word(want[2])


def is_word(value):
    """Whether this is a word that can be asked for."""
    return isinstance(value, str) and 1 <= len(value) <= MOST_LETTERS and all([is_letter(sign) for sign in value])


def is_letter(sign):
    """Whether words, and the runs of letters in sheets, may have this sign."""
    return "a" <= sign <= "z"


def places_with(sheet, word):
    """All places at which the word stands, rising."""
    return [place_in(sheet, at) for at in range(len(sheet)) if sheet[at:at + len(word)] == word]


def rows_with(sheet, word):
    """The numbers of all rows in which the word stands, rising."""
    return [number for number, row in enumerate(sheet.split("\n")) if word in row]


def ends_of_run(sheet, at):
    """The begin and the end, as places, of the run at a number; None if there is none."""
    run = run_at(sheet, at)
    if run is None:
        return None
    return (place_in(sheet, run[0]), place_in(sheet, run[1]))


def renaming(sheet, at, word):
    """Edits that put the word in the place of each run like that at a number; None if that can't be."""
    run = run_at(sheet, at)
    if run is None:
        return None
    old = sheet[run[0]:run[1]]
    alike = [(first, last) for first, last in runs_of(sheet) if sheet[first:last] == old]
    signs = len(sheet) + len(alike) * (len(word) - len(old))
    if len(alike) > MOST_EDITS or signs > MOST_SIGNS:
        return None
    # The last one is first, so that no edit moves the places of those behind it.
    return [(place_in(sheet, first), place_in(sheet, last), word) for first, last in reversed(alike)]


def run_at(sheet, at):
    """The run of letters within which a number is, or at an end of which; None if there is none."""
    for first, last in runs_of(sheet):
        if first <= at <= last:
            return (first, last)
    return None


def runs_of(sheet):
    """The begin and the end, as numbers, of each longest run of letters, rising."""
    runs = []
    first = 0
    # The line end that is added closes a run at the sheet's end.
    for at, sign in enumerate(sheet + "\n"):
        if not is_letter(sign):
            if first < at:
                runs.append((first, at))
            first = at + 1
    return runs
