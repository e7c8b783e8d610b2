"""Called sheets: some questions are asked again of whoever left them blank, and are then answered truly."""

from whyblank.books import Book, shares_fault
from whyblank.errors import InvalidSheets, Refused
from whyblank.forms import is_form, is_lot, is_sheet, lot_of, lots, lots_within, names_of, sheet_of, truths
from whyblank.forms import truths_behind, without_names
from whyblank.fractions import ONE, added_up, is_fraction, sign_of, total_of
from whyblank.kinds import is_tuple_of
from whyblank.onebook import products_by
from whyblank.sheets import gathered_sheets
from whyblank.weights import weigh


class CalledSheets:
    """A form, the lot of the questions that are called back, and triples (lot, sheet, share)."""

    def __init__(self, form, called, shares):
        self.form = form
        self.called = called
        self.shares = shares

    def __eq__(self, other):
        if not isinstance(other, CalledSheets):
            return False
        return self.form == other.form and self.called == other.called and self.shares == other.shares


def is_called_triple(form, called, value):
    """Whether any value is a tuple of a lot, a sheet blank just at its uncalled questions, and a fraction above 0."""
    if not is_tuple_of(value, 3) or not is_lot(form, value[0]) or not is_sheet(form, value[1]):
        return False
    if lot_of(form, value[1]) != without_names(value[0], called):
        return False
    return is_fraction(value[2]) and sign_of(value[2]) > 0


def called_fault(value):
    """What is wrong with any value as a table of called sheets, as `need_called` tells it; None if nothing is."""
    if not isinstance(value, CalledSheets) or not is_form(value.form) or not is_lot(value.form, value.called):
        return -1
    if not isinstance(value.shares, tuple):
        return -1
    return shares_fault(value.shares, [is_called_triple(value.form, value.called, row) for row in value.shares])


def need_called(value):
    """Raises `InvalidSheets` for what is no table of called sheets."""
    fault = called_fault(value)
    if fault is not None:
        raise InvalidSheets(fault)


def is_called(value):
    """Whether any value is a table of called sheets."""
    return called_fault(value) is None


def called_sheets(book, called):
    """The table of the called sheets of a book, where a lot is called back."""
    pairs = []
    for lot, truth, share in book.shares:
        pairs.append(((lot, sheet_of(book.form, without_names(lot, called), truth)), share))
    return CalledSheets(book.form, called, tuple([(lot, sheet, share) for (lot, sheet), share in added_up(pairs)]))


def uncalled(value):
    """The table of sheets that came back ahead of all calls."""
    form = value.form
    return gathered_sheets(form, [(sheet_of(form, lot, sheet), share) for lot, sheet, share in value.shares])


def is_full(value):
    """Whether every lot comes with every sheet that it may have."""
    every = 0
    for lot in lots(value.form):
        many = 1
        for name, answers in value.form.questions:
            if name in value.called or name not in lot:
                many *= answers
        every += many
    return len(value.shares) == every


def called_share(book, called):
    """The share of all people who left a question of a lot blank."""
    return total_of([share for lot, _, share in book.shares if any([name in called for name in lot])])


def need_full(value):
    """Raises `Refused` for a table of called sheets that is not full."""
    if not is_full(value):
        raise Refused("nought")


def shares_beside(value, held):
    """The shares of those who left just these questions of the called ones blank, a dict by sheets."""
    names = without_names(names_of(value.form), value.called)
    return {sheet: share for lot, sheet, share in value.shares if without_names(lot, names) == held}


def called_weight(value, lot, sheet):
    """The weight of a lot and a sheet that may come with it, beside those who left just its called questions blank."""
    need_full(value)
    others = without_names(lot, value.called)
    shares = shares_beside(value, without_names(lot, others))
    # Among those who are held alike, the weights are those of sheets.
    return weigh(value.form, shares, lots_within(others), truths_behind(value.form, sheet)).get(sheet, ONE)


def book_called(value):
    """The only book with these called sheets in which each blank that is not called is free of its own answer."""
    need_full(value)
    form, every = value.form, truths(value.form)
    inside = lots_within(without_names(names_of(form), value.called))
    shares = []
    for held in lots_within(value.called):
        beside = shares_beside(value, held)
        for lot, truth, share in products_by(form, beside, weigh(form, beside, inside, every), inside, every):
            shares.append((tuple(sorted(held + lot)), truth, share))
    return Book(form, tuple(sorted(shares)))
