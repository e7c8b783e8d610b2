"""The one book: free and grown books, told by the full sheets and the weights of the others."""

from whyblank.books import Book, is_book, lots_in, part, share_of
from whyblank.errors import InvalidSize, Refused
from whyblank.forms import lot_of, lots_within, names_of, place_of
from whyblank.fractions import ZERO, over, product_all, total_of
from whyblank.makers import free_given_rest
from whyblank.sheets import Sheets, sheets_of
from whyblank.weights import blanked, grown_weights, lots_inside, lots_that_come, shares_by_sheet, truths_that_come
from whyblank.weights import why_not_grown


def is_free(book, name):
    """Whether a question's blank is free of its own answer in a book."""
    place_of(book.form, name)
    return free_given_rest(book, ("a", name), ("b", name))


def own_blanks(book):
    """The names of the questions whose blank is not free of their own answer, ascending."""
    return tuple([name for name in names_of(book.form) if not is_free(book, name)])


def is_grown(book):
    """Whether with each lot all lots within it come, and all of them with the same truths."""
    come = lots_in(book)
    if not all([lesser in come for lot in come for lesser in lots_within(lot)]):
        return False
    truths = [[pair[0] for pair in part(book, lot)] for lot in come]
    return all([some == truths[0] for some in truths])


def products_by(form, shares, found, lots, truths):
    """The triples (lot, truth, product): the truth's share times the weights of its sheets with blanks of the lot.

    Shares and weights are dicts by sheets.
    """
    triples = []
    for lot in lots:
        inside = lots_inside(lot)
        for truth in truths:
            factors = [shares[truth]] + [found[sheet] for sheet in blanked(form, inside, truth)]
            triples.append((lot, truth, product_all(factors)))
    return triples


def book_by_weights(sheets, found):
    """The one book of a grown table of sheets, by the weights of its sheets, a dict."""
    come = (lots_that_come(sheets), truths_that_come(sheets))
    return Book(sheets.form, tuple(products_by(sheets.form, shares_by_sheet(sheets), found, come[0], come[1])))


def one_book(sheets):
    """The one free and grown book that a grown table of sheets tells."""
    return book_by_weights(sheets, grown_weights(sheets))


def check_book(sheets, value):
    """Whether any value is a free and grown book that has just these sheets."""
    if not is_book(value) or value.form != sheets.form:
        return False
    return is_grown(value) and sheets_of(value) == sheets and own_blanks(value) == ()


def interplay(book, lot, truth):
    """The product of the truth's shares with all lots within a lot, in turn multiplied and divided."""
    factors = []
    for lesser in lots_within(lot):
        share = share_of(book, lesser, truth)
        if share == ZERO:
            raise InvalidSize("nought")
        is_odd = (len(lot) - len(lesser)) % 2 == 1
        factors.append((share[1], share[0]) if is_odd else share)
    return product_all(factors)


def grown_book(form, fulls, weights):
    """The book that has these fractions of truths and these weights of sheets with blanks, in their measure."""
    table = Sheets(form, tuple(sorted(list(fulls) + list(weights))))
    word = why_not_grown(table)
    if word is not None:
        raise Refused(word)
    truths = [pair[0] for pair in fulls]
    lots = sorted({lot_of(form, pair[0]) for pair in table.shares})
    shares, found = {truth: one for truth, one in fulls}, {sheet: one for sheet, one in weights}
    triples = products_by(form, shares, found, lots, truths)
    total = total_of([triple[2] for triple in triples])
    return Book(form, tuple([(lot, truth, over(product, total)) for lot, truth, product in triples]))
