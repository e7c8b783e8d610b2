"""Papers of families of lots: that sheets tell all books, or two books that they leave alike."""

from whyblank.books import is_book, lots_in, part
from whyblank.forms import truths
from whyblank.lotrules import gaps, lot_book
from whyblank.onebook import own_blanks
from whyblank.sheets import sheets_of


class LotsTold:
    """A closed family."""

    def __init__(self, lots):
        self.lots = lots

    def __eq__(self, other):
        return isinstance(other, LotsTold) and self.lots == other.lots


class LotsApart:
    """A gap of a family, and two books that its sheets leave alike."""

    def __init__(self, lot, lesser, one, other):
        self.lot = lot
        self.lesser = lesser
        self.one = one
        self.other = other

    def __eq__(self, other):
        if not isinstance(other, LotsApart) or self.lot != other.lot or self.lesser != other.lesser:
            return False
        return self.one == other.one and self.other == other.other


def lots_paper(form, lots):
    """That a family is closed, or its first gap and two books."""
    having = gaps(lots)
    if not having:
        return LotsTold(lots)
    lot, lesser = having[0]
    return LotsApart(lot, lesser, lot_book(form, lots, having[0], 1), lot_book(form, lots, having[0], -1))


def is_free_with(form, lots, rows, value):
    """Whether any value is a free book of a form in which just these lots come, each with just these truths."""
    if not is_book(value) or value.form != form or lots_in(value) != lots:
        return False
    # Triples of a book are unlike, so each lot has each truth if there are as many triples as pairs of both.
    if len(value.shares) != len(lots) * len(rows) or not all([triple[1] in rows for triple in value.shares]):
        return False
    return own_blanks(value) == ()


def are_left_alike(one, other, lot):
    """Whether two books have the same sheets, but unlike parts with a lot."""
    return sheets_of(one) == sheets_of(other) and part(one, lot) != part(other, lot)


def check_lots(form, lots, value):
    """Whether any value shows that a family is closed, or a gap of it and two books that its sheets leave alike."""
    if isinstance(value, LotsTold):
        return value.lots == lots and not gaps(lots)
    if not isinstance(value, LotsApart) or (value.lot, value.lesser) not in gaps(lots):
        return False
    for book in (value.one, value.other):
        if not is_free_with(form, lots, truths(form), book):
            return False
    return are_left_alike(value.one, value.other, value.lot)
