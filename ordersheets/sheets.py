"""The calls on order sheets. A text is a list of its bytes; an answer is a list of whole numbers."""

from ordersheets.form import sheet_form
from ordersheets.reader import Fault
from ordersheets.tops import read_sheet

LONGEST_TEXT = 3000


def is_text(text):
    return len(text) <= LONGEST_TEXT and all([0 <= byte <= 255 for byte in text])


def check(text):
    """The first fault's number, line and column, three times 0 if the sheet has none."""
    if not is_text(text):
        return [-1]
    try:
        read_sheet(text)
    except Fault as fault:
        return [0, fault.number, fault.line, fault.column]
    return [0, 0, 0, 0]


def show(text):
    """A row: the bytes of the sheet's one form."""
    if not is_text(text):
        return [-1]
    try:
        tops = read_sheet(text)
    except Fault:
        return [-3]
    form = sheet_form(tops)
    return [0, len(form)] + form
