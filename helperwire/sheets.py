"""Sheets, their places, and edits.

Inside, a place is handled as the number of signs ahead of it, and an edit as
a span (sheet, first, last, put): the sheet that it is done on, the numbers of
its begin and its end, and what is put there.
"""

from helperwire.errors import BadEdit, BadPlace, BadSheet

MOST_SIGNS = 200
MOST_PUT = 40
MOST_EDITS = 8


def number_of(sheet, place):
    """How many signs, line ends too, stand ahead of a place."""
    check_sheet(sheet)
    return number_in(sheet, place)


def place_of(sheet, number):
    """The place behind so many signs."""
    check_sheet(sheet)
    return place_in(sheet, number)


def edited(sheet, edits):
    """The sheet behind the edits."""
    spans = spans_of(sheet, edits)
    return behind(spans[-1]) if spans else sheet


def together(sheet, edits):
    """One edit by which the same sheet comes, None if the sheet stays."""
    after = edited(sheet, edits)
    if after == sheet:
        return None
    first = same_at_begin(sheet, after)
    # The begin takes its signs first, so the end shares only what is left.
    kept = same_at_begin(sheet[first:][::-1], after[first:][::-1])
    last = len(sheet) - kept
    put = after[first:len(after) - kept]
    return (place_in(sheet, first), place_in(sheet, last), put)


def back(sheet, edits):
    """Edits that undo the edits one by one, the last one's ahead."""
    return [undoing(span) for span in reversed(spans_of(sheet, edits))]


def moved(sheet, edits, place):
    """Where a place of the sheet is behind the edits, None if it was taken out."""
    spans = spans_of(sheet, edits)
    number = number_in(sheet, place)
    for span in spans:
        number = number_behind(span, number)
        if number is None:
            return None
    return place_in(behind(spans[-1]) if spans else sheet, number)


def check_sheet(sheet):
    """Refuse a text that is no sheet."""
    if not is_text_of_signs(sheet, MOST_SIGNS):
        raise BadSheet("no sheet")


def is_text_of_signs(text, most):
    """Whether this is a text of the signs of a sheet, no more than so many."""
    return isinstance(text, str) and len(text) <= most and all([is_sign(sign) for sign in text])


def is_sign(sign):
    """Whether a sheet may have this sign."""
    return " " <= sign <= "~" or sign == "\n"


def is_number(value):
    """Whether this is a whole number; Python counts True and False as such, the paper doesn't."""
    return isinstance(value, int) and not isinstance(value, bool)


def is_two_numbers(value):
    """Whether this has the form of a place, of whatever sheet."""
    return isinstance(value, tuple) and len(value) == 2 and is_number(value[0]) and is_number(value[1])


def is_place(sheet, value):
    """Whether the sheet has this place."""
    if not is_two_numbers(value):
        return False
    row, column = value
    rows = sheet.split("\n")
    return 0 <= row < len(rows) and 0 <= column <= len(rows[row])


def number_in(sheet, place):
    """The number of signs ahead of a place of what is known to be a sheet."""
    if not is_place(sheet, place):
        raise BadPlace("no place of the sheet")
    row, column = place
    return sum([len(above) + 1 for above in sheet.split("\n")[:row]]) + column


def place_in(sheet, number):
    """The place behind so many signs of what is known to be a sheet."""
    if not is_number(number) or not 0 <= number <= len(sheet):
        raise BadPlace("not so many signs")
    ahead = sheet[:number]
    return (ahead.count("\n"), number - (ahead.rfind("\n") + 1))


def spans_of(sheet, edits):
    """The edits as spans, each of the sheet that came of those ahead."""
    check_sheet(sheet)
    spans = []
    for number, edit in enumerate(edits):
        if number == MOST_EDITS or not can_be_done(sheet, edit):
            raise BadEdit(number)
        begin, end, put = edit
        span = (sheet, number_in(sheet, begin), number_in(sheet, end), put)
        spans.append(span)
        sheet = behind(span)
    return spans


def can_be_done(sheet, edit):
    """Whether this is an edit of the sheet."""
    if not isinstance(edit, tuple) or len(edit) != 3:
        return False
    begin, end, put = edit
    if not is_place(sheet, begin) or not is_place(sheet, end) or not is_text_of_signs(put, MOST_PUT):
        return False
    taken = number_in(sheet, end) - number_in(sheet, begin)
    return taken >= 0 and len(sheet) - taken + len(put) <= MOST_SIGNS


def behind(span):
    """The sheet that comes of a span."""
    sheet, first, last, put = span
    return sheet[:first] + put + sheet[last:]


def same_at_begin(one, other):
    """How many signs two texts share at their begins."""
    many = 0
    while many < len(one) and many < len(other) and one[many] == other[many]:
        many += 1
    return many


def undoing(span):
    """The edit that undoes a span; it puts back all that was taken out, be that longer than edits put."""
    sheet, first, last, put = span
    begin = place_in(sheet, first)
    end = place_in(behind(span), first + len(put))
    return (begin, end, sheet[first:last])


def number_behind(span, number):
    """Where a number of signs is behind a span, None if it was taken out."""
    first, last, put = span[1:]
    if number <= first:
        return number
    if number >= last:
        return first + len(put) + number - last
    return None
