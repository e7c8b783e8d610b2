"""Answers that cannot go together: rows, what their sheets tell, and books that they leave alike."""

from whyblank.books import Book
from whyblank.charts import reached
from whyblank.errors import InvalidSize, Refused
from whyblank.forms import is_truth, lots_within, sheet_of, truths
from whyblank.fractions import ONE, fraction, minus, plus, times
from whyblank.lotrules import gaps, need_side


def need_rows(form, value):
    """Raises `InvalidSize` for what is no rows of a form."""
    if not isinstance(value, tuple) or len(value) == 0:
        raise InvalidSize("rows")
    for at, row in enumerate(value):
        if not is_truth(form, row) or (at > 0 and row <= value[at - 1]):
            raise InvalidSize("rows")


def is_step(form, lot, one, other):
    """Whether two truths are unlike in the answer to just one question, and this one is of a lot."""
    unlike = [question[0] for question, first, second in zip(form.questions, one, other) if first != second]
    return len(unlike) == 1 and unlike[0] in lot


def row_way(form, rows, lot, one, other):
    """The first of the shortest row ways by a lot from one truth to another, None if there is none."""
    if one not in rows or other not in rows:
        return None
    met = {one: True}
    ends = {one: (one,)}
    while ends and other not in ends:
        ends = one_row_on(form, rows, lot, ends, met)
        for row in ends:
            met[row] = True
    return ends.get(other)


def one_row_on(form, rows, lot, ends, met):
    """The first row ways of one row more than those that end at some rows, by the new rows to which they come."""
    found = {}
    for end, way in ends.items():
        for row in rows:
            # Row ways are met ascending here, so the first one that comes to a row is the one.
            if row not in met and row not in found and is_step(form, lot, end, row):
                found[row] = way + (row,)
    return found


def pieces(form, rows, lot):
    """The pieces of the rows that hang together by row ways by a lot, ascending."""
    steps = [(one, other) for one in rows for other in rows if is_step(form, lot, one, other)]
    found = []
    for row in rows:
        if not any([row in piece for piece in found]):
            found.append(reached((row,), steps))
    return tuple(found)


def fibre(form, rows, lot, truth):
    """The rows that agree with a truth in all answers outside a lot, ascending."""
    outside = sheet_of(form, lot, truth)
    return tuple([row for row in rows if sheet_of(form, lot, row) == outside])


def split(form, rows, lot):
    """The first two rows that agree outside a lot and have no row way by it, None if there are none."""
    for piece in pieces(form, rows, lot):
        # The first piece of a fibre begins with the fibre's first row, so all its other rows are above this one.
        for row in fibre(form, rows, lot, piece[0]):
            if row not in piece:
                return (piece[0], row)
    return None


def split_lots(form, rows, lots):
    """The lots that have a split, those with the fewest names first, else ascending."""
    return sorted([lot for lot in lots if split(form, rows, lot) is not None], key=len)


def bridges(form, rows, lots):
    """The truths that are no rows and each of which, put in alone, leaves no lot of a family with a split."""
    found = []
    for truth in truths(form):
        if truth not in rows and not split_lots(form, tuple(sorted(list(rows) + [truth])), lots):
            found.append(truth)
    return tuple(found)


def need_closed(lots):
    """Raises `Refused` for a family that is not closed."""
    if gaps(lots):
        raise Refused("lots")


def whole_lots(form, rows, lots):
    """The lots of a closed family such that neither they nor a lot within them has a split, ascending."""
    need_closed(lots)
    having = split_lots(form, rows, lots)
    return tuple([lot for lot in lots if not any([lesser in having for lesser in lots_within(lot)])])


def row_book(form, rows, lots, lot, side):
    """The book of a closed family and rows that leans to a side where a lot with a split is left blank."""
    need_closed(lots)
    if lot not in lots:
        raise Refused("lot")
    if split(form, rows, lot) is None:
        raise Refused("told")
    need_side(side)
    leaning = leaning_factors(form, rows, lot, side)
    even = fraction(1, len(lots) * len(rows))
    shares = []
    for one in lots:
        factors = leaning if all([name in one for name in lot]) else {}
        for row in rows:
            shares.append((one, row, times(even, factors.get(row, ONE))))
    return Book(form, tuple(shares))


def leaning_factors(form, rows, lot, side):
    """By the rows of the fibre in which a lot has its split, how many times its even share each of them gets."""
    first = split(form, rows, lot)[0]
    together = [piece for piece in pieces(form, rows, lot) if first in piece][0]
    every = fibre(form, rows, lot, first)
    many = len(every)
    factors = {}
    for row in every:
        if row in together:
            factors[row] = plus(ONE, fraction(side * (many - len(together)), many))
        else:
            factors[row] = minus(ONE, fraction(side * len(together), many))
    return factors


def two_row_books(form, rows, lots, lot):
    """The books with the sides 1 and -1 of the first of the lots with a split, fewest names first, within a lot."""
    need_closed(lots)
    if lot not in lots:
        raise Refused("lot")
    having = split_lots(form, rows, lots_within(lot))
    if not having:
        raise Refused("told")
    return (row_book(form, rows, lots, having[0], 1), row_book(form, rows, lots, having[0], -1))
