"""Papers of rows: that sheets tell all books, or two books that they leave alike."""

from whyblank.forms import is_truth
from whyblank.lotpapers import are_left_alike, is_free_with
from whyblank.lotrules import gaps
from whyblank.rowrules import fibre, need_closed, row_book, row_way, split, split_lots


class RowsTold:
    """A closed family none of whose lots has a split."""

    def __init__(self, lots):
        self.lots = lots

    def __eq__(self, other):
        return isinstance(other, RowsTold) and self.lots == other.lots


class RowsApart:
    """A lot with a split, and two books that the sheets leave alike."""

    def __init__(self, lot, one, other, first, second):
        self.lot = lot
        self.one = one
        self.other = other
        self.first = first
        self.second = second

    def __eq__(self, other):
        if not isinstance(other, RowsApart) or self.lot != other.lot:
            return False
        if self.one != other.one or self.other != other.other:
            return False
        return self.first == other.first and self.second == other.second


def rows_paper(form, rows, lots):
    """That no lot of a closed family has a split, or the first that has, its split and two books."""
    need_closed(lots)
    having = split_lots(form, rows, lots)
    if not having:
        return RowsTold(lots)
    lot = having[0]
    one, other = split(form, rows, lot)
    return RowsApart(lot, one, other, row_book(form, rows, lots, lot, 1), row_book(form, rows, lots, lot, -1))


def are_parted(form, rows, lot, one, other):
    """Whether two any values are rows that agree outside a lot and have no row way by it."""
    if not is_truth(form, one) or not is_truth(form, other) or one not in rows:
        return False
    return other in fibre(form, rows, lot, one) and row_way(form, rows, lot, one, other) is None


def check_rows(form, rows, lots, value):
    """Whether any value shows that no lot of a closed family has a split, or a split and two books left alike."""
    if gaps(lots):
        return False
    if isinstance(value, RowsTold):
        return value.lots == lots and not split_lots(form, rows, lots)
    if not isinstance(value, RowsApart) or value.lot not in lots:
        return False
    if not are_parted(form, rows, value.lot, value.one, value.other):
        return False
    for book in (value.first, value.second):
        if not is_free_with(form, lots, rows, book):
            return False
    return are_left_alike(value.first, value.second, value.lot)
