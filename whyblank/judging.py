"""Judging: the one book that sheets tell, or two towns that nobody can tell apart by sheets."""

from whyblank.calls import is_own_way
from whyblank.closedlots import check_closed, closed_lot
from whyblank.errors import Refused
from whyblank.forms import names_of
from whyblank.kinds import is_tuple_of
from whyblank.onebook import check_book, one_book
from whyblank.towns import check_towns, two_towns
from whyblank.ways import own_ways, way_of
from whyblank.weights import is_every


class Told:
    """A closed lot of each question, and the one book."""

    def __init__(self, closed, book):
        self.closed = closed
        self.book = book

    def __eq__(self, other):
        return isinstance(other, Told) and self.closed == other.closed and self.book == other.book


class Apart:
    """A question, an own way of it, and two towns."""

    def __init__(self, name, way, one, other):
        self.name = name
        self.way = way
        self.one = one
        self.other = other

    def __eq__(self, other):
        if not isinstance(other, Apart) or self.name != other.name or self.way != other.way:
            return False
        return self.one == other.one and self.other == other.other


def verdict(chart):
    """The word "told" and the closed lot of each question, or "apart", the first name with an own way and this way."""
    having = own_ways(chart)
    if having:
        return ("apart", having[0], way_of(chart, having[0]))
    return ("told", tuple([closed_lot(chart, name) for name in names_of(chart.form)]))


def judged(chart, sheets):
    """What a chart and a table in which every sheet comes tell of the book."""
    if not is_every(sheets):
        raise Refused("nought")
    found = verdict(chart)
    if found[0] == "told":
        return Told(found[1], one_book(sheets))
    one, other = two_towns(chart, found[1])
    return Apart(found[1], found[2], one, other)


def are_closed(chart, value):
    """Whether any value is a tuple of a closed lot of each question, in order."""
    names = names_of(chart.form)
    if not is_tuple_of(value, len(names)):
        return False
    return all([check_closed(chart, name, lot) for name, lot in zip(names, value)])


def check_judged(chart, sheets, value):
    """Whether every sheet comes, and any value shows what a chart and a table of sheets tell of the book."""
    if not is_every(sheets):
        return False
    if isinstance(value, Told):
        return are_closed(chart, value.closed) and check_book(sheets, value.book)
    if not isinstance(value, Apart) or value.name not in names_of(chart.form):
        return False
    return is_own_way(chart, value.name, value.way) and check_towns(chart, (value.one, value.other))
