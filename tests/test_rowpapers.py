"""Point [58], from its papers on: papers of rows."""

import itertools
import unittest

from checks import Case
from helpers import (
    FORM, any_values, as_dict, book_with, closed_family, deep, every_truth, mutants, plain_sheets, random_book, same, seeded,
)
from test_lotpapers import are_left_alike, is_free_with
from test_lotrules import THREE, every_family, is_closed
from test_rowrules import ALIKE, BOTH, few_rows, plain_ways
from test_weights import DEBTS, EARNS, PAIR
from whyblank.books import Book
from whyblank.errors import Refused
from whyblank.forms import Form
from whyblank.rowpapers import RowsApart, RowsTold, check_rows, rows_paper
from whyblank.rowrules import row_book, split

EVERY = tuple(every_truth(FORM))
SOLE = Form((("a", 2),))


def are_parted(form, rows, lot, one, other):
    """Whether two any values are rows that agree outside a lot and have no row way by it, told apart from the package."""
    if not all(any(same(value, row) for row in rows) for value in (one, other)):
        return False
    outside = [at for at, (name, _) in enumerate(form.questions) if name not in lot]
    return all(one[at] == other[at] for at in outside) and not plain_ways(form, rows, lot, one, other)


def plain_splits(form, rows, lots):
    """The lots that have a split, those with the fewest names first."""
    pairs = list(itertools.product(rows, rows))
    return sorted([lot for lot in lots if any(are_parted(form, rows, lot, *pair) for pair in pairs)], key=lambda lot: (len(lot), lot))


def is_paper(form, rows, lots, value):
    """Whether any value shows what sheets tell of rows and a family, told apart from the package."""
    if not is_closed(lots):
        return False
    if type(value) is RowsTold:
        return same(value.lots, lots) and not plain_splits(form, rows, lots)
    if type(value) is not RowsApart or not any(same(value.lot, lot) for lot in lots):
        return False
    if not are_parted(form, rows, value.lot, value.one, value.other):
        return False
    if not all(is_free_with(form, lots, rows, book) for book in (value.first, value.second)):
        return False
    return are_left_alike(value.lot, value.first, value.second)


class Classes(Case):
    def test_they_check_nothing(self):
        for value in any_values():
            self.assertTrue(same(vars(RowsTold(lots=value)), {"lots": value}))
            apart = RowsApart(value, value, value, second=value, first=value)
            self.assertTrue(same(vars(apart), {"lot": value, "one": value, "other": value, "first": value, "second": value}))

    def test_equal(self):
        self.assertTrue(RowsTold(BOTH) == RowsTold(tuple(BOTH)))
        self.assertTrue(RowsApart(1, 2, 3, 4, 5) == RowsApart(1, 2, 3, 4, 5))
        for other in (RowsTold(()), RowsTold(list(BOTH)), BOTH, None, RowsApart(BOTH, 2, 3, 4, 5)):
            self.assertFalse(RowsTold(BOTH) == other)
            self.assertTrue(RowsTold(BOTH) != other)
        for at in range(5):
            parts = [1, 2, 3, 4, 5]
            parts[at] = 0
            self.assertFalse(RowsApart(1, 2, 3, 4, 5) == RowsApart(*parts))
            self.assertTrue(RowsApart(1, 2, 3, 4, 5) != RowsApart(*parts))
        self.assertFalse(RowsApart(1, 2, 3, 4, 5) == RowsTold(1))
        self.assertFalse(RowsApart(1, 2, 3, 4, 5) == (1, 2, 3, 4, 5))


class Papers(Case):
    def agrees(self, form, rows, lots, value):
        expected = is_paper(form, rows, lots, value)
        self.assertIs(check_rows(form, rows, lots, value), expected, value)
        return expected

    def judged(self, form, rows, lots):
        """The paper is as told, and holds."""
        paper, having = rows_paper(form, rows, lots), plain_splits(form, rows, lots)
        if having:
            lot = having[0]
            one, other = split(form, rows, lot)
            self.assertTrue(same(paper, RowsApart(lot, one, other, row_book(form, rows, lots, lot, 1), row_book(form, rows, lots, lot, -1))))
        else:
            self.assertTrue(same(paper, RowsTold(lots)))
        self.assertIs(self.agrees(form, rows, lots, paper), True)
        return type(paper)

    def test_all_rows_of_two_questions(self):
        kinds = []
        for many in range(1, 5):
            for rows in itertools.combinations(EVERY, many):
                for lots in every_family(FORM):
                    if is_closed(lots):
                        kinds.append(self.judged(FORM, rows, lots))
        self.assertEqual((len(kinds), kinds.count(RowsApart)), (75, 2))

    def test_many_rows(self):
        random = seeded(400)
        kinds = []
        for _ in range(60):
            form = random.choice([THREE, Form((("a", 3), ("b", 3))), Form((("a", 3), ("b", 2), ("c", 3)))])
            kinds.append(self.judged(form, few_rows(random, form), closed_family(random, form)))
        self.assertGreater(kinds.count(RowsTold), 5)
        self.assertGreater(kinds.count(RowsApart), 5)
        self.assertEqual(rows_paper(lots=BOTH, rows=ALIKE, form=FORM), rows_paper(FORM, ALIKE, BOTH))
        self.assertIs(check_rows(value=rows_paper(FORM, ALIKE, BOTH), lots=BOTH, rows=ALIKE, form=FORM), True)

    def test_a_family_that_is_not_closed(self):
        for lots in every_family(FORM):
            if not is_closed(lots):
                self.fails(Refused, "lots", rows_paper, FORM, ALIKE, lots)
                for value in (RowsTold(lots), rows_paper(FORM, ALIKE, BOTH), RowsTold(BOTH), None):
                    self.assertIs(self.agrees(FORM, ALIKE, lots, value), False)
                    self.assertIs(self.agrees(FORM, EVERY, lots, value), False)

    def test_any_values(self):
        for rows, lots in ((ALIKE, BOTH), (EVERY, BOTH), (ALIKE, ((), DEBTS))):
            right = rows_paper(FORM, rows, lots)
            for value in any_values() + [deep(right), [right], vars(right)]:
                self.assertIs(self.agrees(FORM, rows, lots, value), False)
            for value in any_values():
                self.agrees(FORM, rows, lots, RowsTold(value))
                for name in vars(right):
                    self.agrees(FORM, rows, lots, right.__class__(**{**vars(right), name: value}))

    def test_changed_at_any_place(self):
        told = [self.agrees(FORM, ALIKE, BOTH, value) for value in mutants(rows_paper(FORM, ALIKE, BOTH))]
        self.assertGreater(len(told), 1000)
        for value in mutants(rows_paper(FORM, EVERY, BOTH)):
            self.agrees(FORM, EVERY, BOTH, value)

    def test_rows_of_bools_are_none(self):
        paper = rows_paper(FORM, ALIKE, BOTH)
        for one, other in (((False, False), (1, 1)), ((0, 0), (True, True)), ((0, False), (1, 1)), ([0, 0], (1, 1))):
            self.assertIs(self.agrees(FORM, ALIKE, BOTH, RowsApart(paper.lot, one, other, paper.first, paper.second)), False)
        self.assertIs(self.agrees(FORM, ALIKE, BOTH, RowsApart(paper.lot, (1, 1), (0, 0), paper.first, paper.second)), True)
        self.assertIs(self.agrees(FORM, ALIKE, BOTH, RowsApart(paper.lot, (0, 0), (0, 0), paper.first, paper.second)), False)
        self.assertIs(self.agrees(FORM, ALIKE, BOTH, RowsApart(paper.lot, (0, 0), (0, 1), paper.first, paper.second)), False)

    def test_lots_rows_and_books_exchanged(self):
        random = seeded(401)
        told = []
        for _ in range(25):
            form = random.choice([FORM, THREE, Form((("a", 3), ("b", 2)))])
            rows, lots = few_rows(random, form), closed_family(random, form)
            paper = rows_paper(form, rows, lots)
            others = [rows_paper(form, few_rows(random, form), lots), rows_paper(form, rows, closed_family(random, form)), RowsTold(lots)]
            if type(paper) is RowsApart:
                parts = vars(paper)
                for name, value in [("lot", lot) for lot in lots] + [("one", row) for row in rows] + [("other", row) for row in rows]:
                    others.append(RowsApart(**{**parts, name: value}))
                others.append(RowsApart(paper.lot, paper.other, paper.one, paper.second, paper.first))
                others.append(RowsApart(paper.lot, paper.one, paper.other, paper.first, paper.first))
                others.append(RowsApart(paper.lot, paper.one, paper.other, paper.first, random_book(random, form)))
                others.append(RowsApart(paper.lot, paper.one, paper.other, paper.first, Book(form, paper.second.shares[::-1])))
            told += [self.agrees(form, rows, lots, value) for value in others]
        self.assertIn(True, told)
        self.assertIn(False, told)

    def test_shares_turned(self):
        random = seeded(402)
        paper = rows_paper(FORM, ALIKE, BOTH)
        for _ in range(50):
            parts = as_dict(paper.second)
            parts[random.choice(sorted(parts))] *= random.choice([1, 2])
            if random.randrange(3) == 0:
                parts[(DEBTS, (0, 1))] = parts[((), (0, 0))]
            if random.randrange(3) == 0:
                del parts[random.choice(sorted(parts))]
            book = book_with(FORM, parts)
            self.agrees(FORM, ALIKE, BOTH, RowsApart(paper.lot, paper.one, paper.other, paper.first, book))

    def test_books_with_other_rows(self):
        """As many rows, which would be left alike as well, but not these."""
        paper, other = rows_paper(FORM, ALIKE, BOTH), rows_paper(FORM, ((0, 1), (1, 0)), BOTH)
        for pair in ((other.first, other.second), (paper.first, other.second), (other.first, paper.second)):
            self.assertIs(self.agrees(FORM, ALIKE, BOTH, RowsApart(PAIR, (0, 0), (1, 1), *pair)), False)
        self.assertIs(self.agrees(FORM, ((0, 1), (1, 0)), BOTH, other), True)

    def test_a_lot_that_has_all_names_of_the_one_with_the_split(self):
        """Its part is unlike in the two books, too, so with its own split it will do as well."""
        rows = ((0, 0, 0), (1, 1, 0))
        lots = tuple(sorted({(), ("a",), ("b",), ("c",), ("a", "b"), ("a", "c"), ("b", "c"), ("a", "b", "c")}))
        paper = rows_paper(THREE, rows, lots)
        self.assertEqual(paper.lot, ("a", "b"))
        self.assertIs(self.agrees(THREE, rows, lots, RowsApart(("a", "b", "c"), paper.one, paper.other, paper.first, paper.second)), True)
        self.assertIs(self.agrees(THREE, rows, lots, RowsApart(("a", "c"), paper.one, paper.other, paper.first, paper.second)), False)
        self.assertEqual(plain_sheets(paper.first), plain_sheets(paper.second))

    def test_one_question(self):
        for rows in (((0,),), ((0,), (1,))):
            for lots in (((),), ((), ("a",))):
                self.assertTrue(same(rows_paper(SOLE, rows, lots), RowsTold(lots)))
                self.assertIs(check_rows(SOLE, rows, lots, RowsTold(lots)), True)
        self.assertEqual(rows_paper(FORM, ALIKE, ((), DEBTS, EARNS)).lots, ((), DEBTS, EARNS))
        self.assertEqual(rows_paper(FORM, ALIKE, BOTH).lot, PAIR)

    def test_the_greatest_forms(self):
        form = Form((("a", 3), ("b", 3), ("c", 3)))
        random = seeded(403)
        lots = closed_family(random, form) + ()
        every = tuple(every_truth(form))
        wide = tuple(sorted({lesser for lot in [("a", "b", "c")] for many in range(4) for lesser in itertools.combinations(lot, many)}))
        for rows in (every, tuple(row for row in every if sum(row) % 2 == 0), tuple(row for row in every if sum(row) not in (2, 3))):
            for some in (lots, wide):
                self.assertIs(check_rows(form, rows, some, rows_paper(form, rows, some)), True)


if __name__ == "__main__":
    unittest.main()
