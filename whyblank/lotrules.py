"""Lots that are never left blank: families of lots, what their sheets tell, and books that they leave alike."""

from whyblank.books import Book
from whyblank.charts import reached
from whyblank.errors import InvalidSize, Refused
from whyblank.forms import is_lot, lots_within, names_of, truths, without_names
from whyblank.fractions import HALF, ONE, fraction, plus, times, whole
from whyblank.kinds import is_int
from whyblank.leans import sign
from whyblank.onebook import products_by
from whyblank.weights import shares_by_sheet, truths_that_come, weigh, why_not_told


def need_family(form, value):
    """Raises `InvalidSize` for what is no family of a form."""
    if not isinstance(value, tuple) or len(value) == 0:
        raise InvalidSize("lots")
    for at, lot in enumerate(value):
        if not is_lot(form, lot) or (at > 0 and lot <= value[at - 1]):
            raise InvalidSize("lots")


def gaps(lots):
    """The pairs of a lot of a family and a lot within it that is not in the family, ascending."""
    return tuple([(lot, lesser) for lot in lots for lesser in lots_within(lot) if lesser not in lots])


def closed_over(lots):
    """All lots that lie within one of a family, ascending."""
    return tuple(sorted({lesser for lot in lots for lesser in lots_within(lot)}))


def told_lots(lots):
    """The lots of a family for which all lots within them are in it, ascending."""
    return tuple([lot for lot in lots if all([lesser in lots for lesser in lots_within(lot)])])


def closed_families(form):
    """All closed families, ascending."""
    found = [((),)]
    # A lot comes behind all lots within it, so each family is put together in just one way.
    for lot in sorted([one for one in lots_within(names_of(form)) if one != ()], key=len):
        lesser = [one for one in lots_within(lot) if one != lot]
        found = found + [some + (lot,) for some in found if all([one in some for one in lesser])]
    return tuple(sorted([tuple(sorted(some)) for some in found]))


def linked(lots, lot, names):
    """The lots of a family to which one comes from a lot by putting in or taking out one of these names at a time."""
    steps = [(one, other) for one in lots for other in lots if differ_by_one(one, other, names)]
    return reached((lot,), steps)


def differ_by_one(one, other, names):
    """Whether two lots are unlike in just one name, and this is one of these names."""
    unlike = list(without_names(one, other)) + list(without_names(other, one))
    return len(unlike) == 1 and unlike[0] in names


def lean(form, names, truth):
    """The product of the signs of a truth's answers to the questions with these names."""
    product = 1
    for name, answer in zip(names_of(form), truth):
        if name in names:
            product *= sign(answer)
    return product


def need_side(value):
    """Raises `InvalidSize` for what is neither 1 nor -1."""
    if not is_int(value) or value not in (1, -1):
        raise InvalidSize("side")


def lot_book(form, lots, gap, side):
    """The book of a family that leans to a side at the lots that are linked to a gap's lot."""
    if gap not in gaps(lots):
        raise InvalidSize("gap")
    need_side(side)
    names = without_names(gap[0], gap[1])
    leaning = linked(lots, gap[0], names)
    every = truths(form)
    even = fraction(1, len(lots) * len(every))
    shares = []
    for lot in lots:
        for truth in every:
            strength = lean(form, names, truth) * side if lot in leaning else 0
            shares.append((lot, truth, times(even, plus(ONE, times(HALF, whole(strength))))))
    return Book(form, tuple(shares))


def two_lot_books(form, lots, lot):
    """The books with the sides 1 and -1 of the first gap of a lot."""
    if lot not in lots:
        raise Refused("lot")
    own = [gap for gap in gaps(lots) if gap[0] == lot]
    if not own:
        raise Refused("told")
    return (lot_book(form, lots, own[0], 1), lot_book(form, lots, own[0], -1))


def lot_part(sheets, lot):
    """The part with a lot of a book, out of its sheets with lots within this one alone."""
    inside = lots_within(lot)
    word = why_not_told(sheets, inside)
    if word is not None:
        raise Refused(word)
    form, shares, come = sheets.form, shares_by_sheet(sheets), truths_that_come(sheets)
    triples = products_by(form, shares, weigh(form, shares, inside, come), [lot], come)
    return tuple([(truth, share) for _, truth, share in triples])
