"""Books: how great a share of all people has which true answers and leaves which lot blank."""

from whyblank.errors import InvalidBook, InvalidSize, Refused
from whyblank.forms import is_form, is_lot, is_truth
from whyblank.fractions import ONE, ZERO, added_up, compared, is_fraction, minus, sign_of, times, total_of
from whyblank.kinds import is_tuple_of


class Book:
    """A form, and triples (lot, truth, share)."""

    def __init__(self, form, shares):
        self.form = form
        self.shares = shares

    def __eq__(self, other):
        return isinstance(other, Book) and self.form == other.form and self.shares == other.shares


def is_triple(form, value):
    """Whether any value is a tuple of a lot, a truth and a fraction above 0."""
    if not is_tuple_of(value, 3) or not is_lot(form, value[0]) or not is_truth(form, value[1]):
        return False
    return is_fraction(value[2]) and sign_of(value[2]) > 0


def shares_fault(rows, right):
    """The number of the first row that is not right or not above the one ahead, how many there are if all are, but
    their shares together are not 1; None if nothing is wrong. A row's share stands last, behind what it is told by.
    """
    for at, row in enumerate(rows):
        if not right[at] or (at > 0 and row[:-1] <= rows[at - 1][:-1]):
            return at
    return None if total_of([row[-1] for row in rows]) == ONE else len(rows)


def book_fault(value):
    """What is wrong with any value as a book, as `need_book` tells it; None if nothing is."""
    if not isinstance(value, Book) or not is_form(value.form) or not isinstance(value.shares, tuple):
        return -1
    return shares_fault(value.shares, [is_triple(value.form, triple) for triple in value.shares])


def need_book(value):
    """Raises `InvalidBook` for what is no book."""
    fault = book_fault(value)
    if fault is not None:
        raise InvalidBook(fault)


def is_book(value):
    """Whether any value is a book."""
    return book_fault(value) is None


def gathered_book(form, shares):
    """The book of triples (lot, truth, fraction from 0 on) in any order, added up."""
    found = added_up([((lot, truth), share) for lot, truth, share in shares])
    if total_of([pair[1] for pair in found]) != ONE:
        raise Refused("total")
    return Book(form, tuple([(lot, truth, share) for (lot, truth), share in found]))


def share_of(book, lot, truth):
    """The share with this lot and this truth, 0 if it is not there."""
    for triple in book.shares:
        if triple[0] == lot and triple[1] == truth:
            return triple[2]
    return ZERO


def part(book, lot):
    """The pairs (truth, share) with this lot, ascending."""
    return tuple([(triple[1], triple[2]) for triple in book.shares if triple[0] == lot])


def lots_in(book):
    """The lots that are in a book, ascending."""
    return tuple([pair[0] for pair in lot_shares(book)])


def lot_shares(book):
    """The pairs (lot, share of all with this lot), ascending."""
    return added_up([(triple[0], triple[2]) for triple in book.shares])


def truth_shares(book):
    """The pairs (truth, share of all with this truth), ascending."""
    return added_up([(triple[1], triple[2]) for triple in book.shares])


def mixed_book(one, other, level):
    """The shares of the other book times level, and of the one times 1 less level, added up."""
    if one.form != other.form:
        raise InvalidSize("form")
    if sign_of(level) < 0 or compared(level, ONE) > 0:
        raise InvalidSize("level")
    return gathered_book(one.form, list(scaled(one, minus(ONE, level))) + list(scaled(other, level)))


def scaled(book, factor):
    """The triples of a book, their shares times a factor."""
    return tuple([(lot, truth, times(share, factor)) for lot, truth, share in book.shares])
