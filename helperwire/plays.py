"""Plays: steps that are done on a wire, and steps as text.

A form tells by its signs what the words of a row are: "n" a number, "t" a
text.
"""

from helperwire.errors import BadText, WireError
from helperwire.wire import Wire

STEP_FORMS = {"open": "nt", "close": "n", "off": "n", "take": "n", "carry": "", "bring": "", "work": "n", "fall": "",
              "anew": "", "settle": ""}
ASK_FORMS = {"find": "t", "rows": "t", "word": "nn", "rename": "nnt"}
EDIT_FORM = "nnnnt"
MOST_FIGURES = 3
EMPTY = "~."
SIGNS = {"~_": " ", "~/": "\n", "~~": "~"}


def played(steps):
    """What each step tells on a wire, and the wire."""
    wire = Wire()
    return ([told_of(wire, step) for step in steps], wire)


def written(steps):
    """The steps as text."""
    return "\n".join([" ".join(words_of(step)) for step in steps])


def read(text):
    """The steps that are written so."""
    if text == "":
        return []
    steps = []
    for number, row in enumerate(text.split("\n")):
        step = step_in(row.split(" "))
        if step is None:
            raise BadText(number)
        steps.append(step)
    return steps


def told_of(wire, step):
    """What a step tells, "no" if it is refused."""
    try:
        return done(wire, step)
    except WireError:
        return "no"


def done(wire, step):
    """Do a step; what it tells."""
    kind = step[0]
    if kind == "carry":
        return wire.carry()
    if kind == "bring":
        return wire.bring()
    if kind == "work":
        return wire.work(step[1])
    if kind == "fall":
        return wire.fall()
    if kind == "anew":
        return wire.anew()
    if kind == "settle":
        return wire.settle()
    return wire.do(step)


def words_of(value):
    """The words for a step or a part of it."""
    if isinstance(value, tuple):
        return [word for part in value for word in words_of(part)]
    if isinstance(value, str):
        return [written_text(value)]
    return [str(value)]


def written_text(text):
    """The word for a text."""
    if text == "":
        return EMPTY
    # The sign by which the others are written must be first, or it would be written in them, too.
    return text.replace("~", "~~").replace(" ", "~_").replace("\n", "~/")


def step_in(words):
    """The step that the words of a row are, None if they are none."""
    kind = words[0]
    if kind == "edit":
        return edit_in(words[1:])
    if kind == "ask":
        return ask_in(words[1:])
    if kind not in STEP_FORMS:
        return None
    parts = parts_in(STEP_FORMS[kind], words[1:])
    return None if parts is None else (kind, *parts)


def edit_in(words):
    """The step "edit" with these words behind it, None if there is none."""
    size = len(EDIT_FORM)
    parts = parts_in("n" + EDIT_FORM * (len(words) // size), words)
    if parts is None:
        return None
    edits = [((parts[at], parts[at + 1]), (parts[at + 2], parts[at + 3]), parts[at + 4])
             for at in range(1, len(parts), size)]
    return ("edit", parts[0], tuple(edits))


def ask_in(words):
    """The step "ask" with these words behind it, None if there is none."""
    if len(words) < 2 or words[1] not in ASK_FORMS:
        return None
    kind = words[1]
    parts = parts_in("n" + ASK_FORMS[kind], words[:1] + words[2:])
    if parts is None:
        return None
    if kind in ("find", "rows"):
        return ("ask", parts[0], (kind, parts[1]))
    place = (parts[1], parts[2])
    rest = parts[3:]
    return ("ask", parts[0], (kind, place, *rest))


def parts_in(form, words):
    """The numbers and texts that the words are, None if they haven't this form."""
    if len(words) != len(form):
        return None
    parts = [number_in(word) if sign == "n" else text_in(word) for sign, word in zip(form, words)]
    return None if None in parts else parts


def number_in(word):
    """The number that a word is, None if it is none."""
    if not 1 <= len(word) <= MOST_FIGURES or not all(["0" <= sign <= "9" for sign in word]):
        return None
    if word[0] == "0" and word != "0":
        return None
    return int(word)


def text_in(word):
    """The text that a word stands for, None if it stands for none."""
    if word == "":
        return None
    if word == EMPTY:
        return ""
    text = ""
    at = 0
    while at < len(word):
        size = 2 if word[at] == "~" else 1
        sign = word[at] if size == 1 else SIGNS.get(word[at:at + size])
        if sign is None:
            return None
        text += sign
        at += size
    return text
