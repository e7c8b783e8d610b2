"""Bounds: the least and the greatest answer over all books with the same sheets."""

from whyblank.asks import answer_by, is_given, mean_of
from whyblank.books import is_book, mixed_book
from whyblank.choices import book_of_picks, options, picks_among, worths_in
from whyblank.errors import Refused
from whyblank.fractions import ONE, ZERO, compared, greatest_of, is_fraction, least_of, minus, over, plus, sign_of
from whyblank.fractions import times, total_of, whole
from whyblank.sheets import sheets_of
from whyblank.weights import shares_by_sheet


class Bounds:
    """The least and the greatest answer, and a book for each."""

    def __init__(self, least, most, low, high):
        self.least = least
        self.most = most
        self.low = low
        self.high = high

    def __eq__(self, other):
        if not isinstance(other, Bounds):
            return False
        if self.least != other.least or self.most != other.most:
            return False
        return self.low == other.low and self.high == other.high


def worths_told(told):
    """All worths in pairs (sheet, options), ascending; `Refused` if there are none."""
    found = sorted({worth for _, some in told for worth in worths_in(some)})
    if not found:
        raise Refused("nobody")
    return found


def answer_of_picks(sheets, some):
    """The answer of the book of some picks."""
    shares = shares_by_sheet(sheets)
    return mean_of([(shares[sheet], option) for sheet, option in some if option is not None])


def best_picks(sheets, told, side, cuts):
    """The best answer for a side, and the picks of the first of these cuts with which it is the answer."""
    every = [picks_among(told, side, cut) for cut in cuts]
    answers = [answer_of_picks(sheets, some) for some in every]
    best = least_of(answers) if side == -1 else greatest_of(answers)
    return (best, every[answers.index(best)])


def bounds(sheets, ask):
    """The least and the greatest answer over all books with these sheets, and two books that have them."""
    told = options(sheets, ask)
    cuts = worths_told(told)
    least, low = best_picks(sheets, told, -1, cuts)
    most, high = best_picks(sheets, told, 1, cuts[::-1])
    return Bounds(least, most, book_of_picks(sheets, ask, low), book_of_picks(sheets, ask, high))


def share_having(sheets, told, option, alone):
    """The share of the sheets that have an option, of those alone that have no other one if this is asked."""
    shares = shares_by_sheet(sheets)
    having = [sheet for sheet, some in told if option in some and (len(some) == 1 or not alone)]
    return total_of([shares[sheet] for sheet in having])


def part_beside(one, other, instead):
    """The first of two fractions from 0 on, divided by both together; another one where these are 0."""
    both = plus(one, other)
    return instead if both == ZERO else over(one, both)


def share_bounds(sheets, ask):
    """The least and the greatest answer to an ask whose worths are 0 or 1, told by counts alone."""
    told = options(sheets, ask)
    if not all([worth in (0, 1) for _, some in told for worth in worths_in(some)]):
        raise Refused("worth")
    worths_told(told)
    least = part_beside(share_having(sheets, told, 1, True), share_having(sheets, told, 0, False), ONE)
    most = part_beside(share_having(sheets, told, 1, False), share_having(sheets, told, 0, True), ZERO)
    return (least, most)


def share_given(book, ask):
    """The share of those in a book for whom an ask's test holds."""
    return total_of([share for lot, truth, share in book.shares if is_given(book.form, ask, lot, truth)])


def book_at(sheets, ask, answer):
    """Some book with these sheets that has this answer."""
    found = bounds(sheets, ask)
    if compared(answer, found.least) < 0 or compared(answer, found.most) > 0:
        raise Refused("bounds")
    # Mixed in this measure, what the one book lacks up to the answer is what the other one has beyond it.
    lacks = times(share_given(found.low, ask), minus(answer, found.least))
    beyond = times(share_given(found.high, ask), minus(found.most, answer))
    return mixed_book(found.low, found.high, part_beside(lacks, beyond, ZERO))


def is_certain(sheets, ask):
    """Whether the least and the greatest answer are equal."""
    found = bounds(sheets, ask)
    return found.least == found.most


def sum_beyond(sheets, ask, level, side):
    """The sum of the shares times the best options for a side, the level taken off each worth."""
    shares, best = shares_by_sheet(sheets), []
    for sheet, some in options(sheets, ask):
        gains = [ZERO if option is None else minus(whole(option), level) for option in some]
        best.append(times(shares[sheet], least_of(gains) if side == -1 else greatest_of(gains)))
    return total_of(best)


def is_book_at(sheets, ask, answer, value):
    """Whether any value is a book with these sheets that has this answer."""
    if not is_book(value) or value.form != sheets.form or sheets_of(value) != sheets:
        return False
    return share_given(value, ask) != ZERO and answer_by(value, ask) == answer


def check_bounds(sheets, ask, value):
    """Whether any value is right bounds, judged by plain sums."""
    if not isinstance(value, Bounds) or not is_fraction(value.least) or not is_fraction(value.most):
        return False
    if not is_book_at(sheets, ask, value.least, value.low) or not is_book_at(sheets, ask, value.most, value.high):
        return False
    if sign_of(sum_beyond(sheets, ask, value.least, -1)) < 0:
        return False
    return sign_of(sum_beyond(sheets, ask, value.most, 1)) <= 0
