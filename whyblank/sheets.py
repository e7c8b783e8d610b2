"""Tables of sheets: how great a share of all sheets is which."""

from whyblank.books import gathered_book, shares_fault
from whyblank.errors import InvalidSheets, Refused
from whyblank.forms import Form, is_form, is_sheet, place_of, sheet_of, without_names
from whyblank.fractions import ONE, ZERO, added_up, fraction, is_fraction, sign_of, total_of
from whyblank.kinds import is_tuple_of


class Sheets:
    """A form, and pairs (sheet, share)."""

    def __init__(self, form, shares):
        self.form = form
        self.shares = shares

    def __eq__(self, other):
        return isinstance(other, Sheets) and self.form == other.form and self.shares == other.shares


def is_sheet_share(form, value):
    """Whether any value is a tuple of a sheet and a fraction above 0."""
    if not is_tuple_of(value, 2) or not is_sheet(form, value[0]):
        return False
    return is_fraction(value[1]) and sign_of(value[1]) > 0


def sheets_fault(value):
    """What is wrong with any value as a table of sheets, as `need_sheets` tells it; None if nothing is."""
    if not isinstance(value, Sheets) or not is_form(value.form) or not isinstance(value.shares, tuple):
        return -1
    return shares_fault(value.shares, [is_sheet_share(value.form, pair) for pair in value.shares])


def need_sheets(value):
    """Raises `InvalidSheets` for what is no table of sheets."""
    fault = sheets_fault(value)
    if fault is not None:
        raise InvalidSheets(fault)


def is_sheets(value):
    """Whether any value is a table of sheets."""
    return sheets_fault(value) is None


def gathered_sheets(form, shares):
    """The table of pairs (sheet, fraction from 0 on) in any order, added up."""
    found = added_up(shares)
    if total_of([pair[1] for pair in found]) != ONE:
        raise Refused("total")
    return Sheets(form, found)


def even_sheets(form, some):
    """The table in which each of some sheets, which may be alike, adds an equal share."""
    if not some:
        raise Refused("none")
    return gathered_sheets(form, [(sheet, fraction(1, len(some))) for sheet in some])


def sheet_share(sheets, sheet):
    """The share of a sheet, 0 if it does not come."""
    for pair in sheets.shares:
        if pair[0] == sheet:
            return pair[1]
    return ZERO


def sheets_of(book):
    """The table of the sheets that come of a book."""
    form = book.form
    return gathered_sheets(form, [(sheet_of(form, lot, truth), share) for lot, truth, share in book.shares])


def blank_share(sheets, name):
    """The share of the sheets on which this question is blank."""
    place = place_of(sheets.form, name)
    return total_of([pair[1] for pair in sheets.shares if pair[0][place] == -1])


def left_place(form, name):
    """The number of a question that can be left out of the form."""
    place = place_of(form, name)
    if len(form.questions) == 1:
        raise Refused("last")
    return place


def without_place(things, place):
    """A tuple without the thing at a place."""
    return things[:place] + things[place + 1:]


def struck_book(book, name):
    """The book of the form without this question."""
    place = left_place(book.form, name)
    form = Form(without_place(book.form.questions, place))
    shares = [
        (without_names(lot, (name,)), without_place(truth, place), share) for lot, truth, share in book.shares
    ]
    return gathered_book(form, shares)


def struck_sheets(sheets, name):
    """The table of the sheets without this question."""
    place = left_place(sheets.form, name)
    form = Form(without_place(sheets.form.questions, place))
    return gathered_sheets(form, [(without_place(sheet, place), share) for sheet, share in sheets.shares])
