"""The texts of forms, books and tables of sheets, there and back."""

from whyblank.books import Book, is_triple, shares_fault
from whyblank.charttext import NUMERALS
from whyblank.errors import InvalidText
from whyblank.forms import MOST_QUESTIONS, Form, may_follow
from whyblank.fractions import fraction_text, is_figures, read_fraction
from whyblank.sheets import Sheets, is_sheet_share

NO_NAMES = "-"
BLANK = "."


def form_text(form):
    """The names and numbers of answers of a form."""
    return " ".join([name + " " + str(many) for name, many in form.questions])


def lot_text(lot):
    """The names of a lot, or the sign for none."""
    return ",".join(lot) if lot else NO_NAMES


def sheet_text(sheet):
    """The answers of a sheet or a truth in figures, with a sign for each blank one."""
    return "".join([BLANK if answer == -1 else str(answer) for answer in sheet])


def text_with(form, rows):
    """The text of a form and of rows of words."""
    return "\n".join(["form " + form_text(form)] + [" ".join(row) for row in rows])


def book_text(book):
    """The text of a book."""
    rows = [(lot_text(lot), sheet_text(truth), fraction_text(share)) for lot, truth, share in book.shares]
    return text_with(book.form, rows)


def sheets_text(sheets):
    """The text of a table of sheets."""
    return text_with(sheets.form, [(sheet_text(sheet), fraction_text(share)) for sheet, share in sheets.shares])


def need_text(value):
    """Raises `InvalidText` for what is no string."""
    if not isinstance(value, str):
        raise InvalidText(-1)


def form_with(text):
    """The form with this text, None if there is none."""
    words = text.split(" ")
    if len(words) > 2 * MOST_QUESTIONS or len(words) != 2 * len(words[1::2]):
        return None
    questions = ()
    for name, numeral in zip(words[::2], words[1::2]):
        if numeral not in NUMERALS or not may_follow(questions, (name, int(numeral))):
            return None
        questions = questions + ((name, int(numeral)),)
    return Form(questions)


def read_form(value):
    """The form with this text."""
    need_text(value)
    form = form_with(value)
    if form is None:
        raise InvalidText(0)
    return form


def lot_with(word):
    """The names with this text, which may be no lot."""
    return () if word == NO_NAMES else tuple(word.split(","))


def sheet_with(word):
    """The answers with this text, None if there are none."""
    if not is_figures(word.replace(BLANK, "0")):
        return None
    return tuple([-1 if sign == BLANK else int(sign) for sign in word])


def share_with(word):
    """The fraction with this text, None if there is none."""
    try:
        return read_fraction(word)
    except InvalidText:
        return None


def triple_with(line):
    """The triple of a book with this line, which may be none of its form; None if there is none."""
    words = line.split(" ")
    return (lot_with(words[0]), sheet_with(words[1]), share_with(words[2])) if len(words) == 3 else None


def pair_with(line):
    """The pair of a table of sheets with this line, which may be none of its form; None if there is none."""
    words = line.split(" ")
    return (sheet_with(words[0]), share_with(words[1])) if len(words) == 2 else None


def form_ahead(line):
    """The form that the first line of a text tells."""
    form = form_with(line.removeprefix("form ")) if line.startswith("form ") else None
    if form is None:
        raise InvalidText(0)
    return form


def form_and_rows(value, row_with, is_right):
    """The form and the rows of a text, by what a line tells, and by whether this is a right row of a form."""
    need_text(value)
    lines = value.split("\n")
    form = form_ahead(lines[0])
    rows = [row_with(line) for line in lines[1:]]
    fault = shares_fault(rows, [is_right(form, row) for row in rows])
    if fault is not None:
        # The rows are counted without the first line.
        raise InvalidText(fault + 1)
    return (form, tuple(rows))


def read_book(value):
    """The book with this text."""
    form, rows = form_and_rows(value, triple_with, is_triple)
    return Book(form, rows)


def read_sheets(value):
    """The table of sheets with this text."""
    form, rows = form_and_rows(value, pair_with, is_sheet_share)
    return Sheets(form, rows)
