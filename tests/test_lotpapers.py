"""Point [53]: papers of families of lots."""

import unittest

from checks import Case
from helpers import (
    FORM, any_values, as_dict, book_with, deep, every_truth, free_book, mutants, plain_own_blanks, plain_sheets, random_book, same, seeded,
)
from test_books import fault as book_fault
from test_lotrules import NEVER, THREE, every_family, is_closed, plain_gaps, random_family
from test_weights import DEBTS, EARNS, PAIR
from whyblank.books import Book, part
from whyblank.forms import Form
from whyblank.lotpapers import LotsApart, LotsTold, check_lots, lots_paper
from whyblank.lotrules import gaps, lot_book

SOLE = Form((("a", 2),))


def is_free_with(form, lots, rows, value):
    """Whether any value is a free book with just these lots, each with just these truths, told apart from the package."""
    if book_fault(value) is not None or not same(value.form, form):
        return False
    return set(as_dict(value)) == {(lot, row) for lot in lots for row in rows} and plain_own_blanks(value) == ()


def are_left_alike(lot, one, other):
    parts = [{truth: share for (some, truth), share in as_dict(book).items() if some == lot} for book in (one, other)]
    return same(plain_sheets(one), plain_sheets(other)) and parts[0] != parts[1]


def is_paper(form, lots, value):
    """Whether any value shows what sheets tell of a family, told apart from the package."""
    if type(value) is LotsTold:
        return same(value.lots, lots) and is_closed(lots)
    if type(value) is not LotsApart or not any(same((value.lot, value.lesser), gap) for gap in plain_gaps(lots)):
        return False
    if not all(is_free_with(form, lots, every_truth(form), book) for book in (value.one, value.other)):
        return False
    return are_left_alike(value.lot, value.one, value.other)


class Classes(Case):
    def test_they_check_nothing(self):
        for value in any_values():
            self.assertTrue(same(vars(LotsTold(lots=value)), {"lots": value}))
            apart = LotsApart(value, value, other=value, one=value)
            self.assertTrue(same(vars(apart), {"lot": value, "lesser": value, "one": value, "other": value}))

    def test_equal(self):
        self.assertTrue(LotsTold(NEVER) == LotsTold(tuple(NEVER)))
        self.assertTrue(LotsApart(1, 2, 3, 4) == LotsApart(1, 2, 3, 4))
        for other in (LotsTold(()), LotsTold(list(NEVER)), NEVER, None, LotsApart(NEVER, 2, 3, 4)):
            self.assertFalse(LotsTold(NEVER) == other)
            self.assertTrue(LotsTold(NEVER) != other)
        for other in (LotsApart(0, 2, 3, 4), LotsApart(1, 0, 3, 4), LotsApart(1, 2, 0, 4), LotsApart(1, 2, 3, 0), LotsTold(1), (1, 2, 3, 4)):
            self.assertFalse(LotsApart(1, 2, 3, 4) == other)
            self.assertTrue(LotsApart(1, 2, 3, 4) != other)


class Papers(Case):
    def agrees(self, form, lots, value):
        expected = is_paper(form, lots, value)
        self.assertIs(check_lots(form, lots, value), expected, value)
        return expected

    def judged(self, form, lots):
        """The paper is as told, and holds."""
        paper = lots_paper(form, lots)
        if is_closed(lots):
            self.assertTrue(same(paper, LotsTold(lots)))
        else:
            gap = plain_gaps(lots)[0]
            self.assertTrue(same(paper, LotsApart(gap[0], gap[1], lot_book(form, lots, gap, 1), lot_book(form, lots, gap, -1))))
        self.assertIs(self.agrees(form, lots, paper), True)
        return type(paper)

    def test_all_families_of_two_questions(self):
        told = [self.judged(FORM, lots) for lots in every_family(FORM)]
        self.assertEqual((len(told), told.count(LotsTold)), (15, 5))
        self.assertEqual([self.judged(SOLE, lots) for lots in every_family(SOLE)].count(LotsTold), 2)

    def test_many_families_of_three_questions(self):
        random = seeded(390)
        for form in (THREE, Form((("a", 3), ("b", 2), ("c", 3)))):
            kinds = {self.judged(form, random_family(random, form)) for _ in range(25)}
            self.assertEqual(kinds, {LotsTold, LotsApart})
        closed = [lots for lots in every_family(THREE) if is_closed(lots)]
        self.assertEqual(len(closed), 19)
        for lots in closed:
            self.judged(THREE, lots)
        self.assertEqual(lots_paper(lots=NEVER, form=FORM), lots_paper(FORM, NEVER))
        self.assertIs(check_lots(value=lots_paper(FORM, NEVER), lots=NEVER, form=FORM), True)

    def test_papers_of_other_families(self):
        families = every_family(FORM)
        for lots in families:
            paper = lots_paper(FORM, lots)
            for other in families:
                self.agrees(FORM, other, paper)
                self.agrees(FORM, other, LotsTold(lots))
        self.assertIs(self.agrees(FORM, NEVER, LotsTold(NEVER)), False)
        self.assertIs(self.agrees(FORM, ((), DEBTS), LotsTold([(), DEBTS])), False)

    def test_any_values(self):
        for lots in (NEVER, ((), DEBTS), (PAIR,)):
            right = lots_paper(FORM, lots)
            for value in any_values() + [deep(right), [right], vars(right)]:
                self.assertIs(self.agrees(FORM, lots, value), False)
            for value in any_values():
                self.agrees(FORM, lots, LotsTold(value))
                for name in vars(right):
                    self.agrees(FORM, lots, right.__class__(**{**vars(right), name: value}))

    def test_changed_at_any_place(self):
        told = []
        for lots in ((("a",),), ((), ("a",))):
            for value in mutants(lots_paper(SOLE, lots)):
                told.append(self.agrees(SOLE, lots, value))
        self.assertGreater(len(told), 1000)

    def test_lots_books_and_sides_exchanged(self):
        told = []
        random = seeded(391)
        for form, lots in [(FORM, NEVER), (FORM, (PAIR,)), (FORM, (DEBTS, EARNS)), (THREE, random_family(random, THREE)), (THREE, ((), ("a", "b", "c")))]:
            for gap in gaps(lots):
                one, other = lot_book(form, lots, gap, 1), lot_book(form, lots, gap, -1)
                for pair in ((one, other), (other, one), (one, one), (other, other)):
                    for lot, lesser in gaps(lots) + ((gap[1], gap[0]), (gap[0], gap[0])):
                        told.append(self.agrees(form, lots, LotsApart(lot, lesser, *pair)))
                even = book_with(form, {(lot, truth): 1 for lot in lots for truth in every_truth(form)})
                told.append(self.agrees(form, lots, LotsApart(gap[0], gap[1], one, even)))
        self.assertIn(True, told)
        self.assertIn(False, told)

    def test_shares_turned(self):
        """Books that are not free, with other sheets, with a lot or a truth more or less."""
        random = seeded(392)
        gap = gaps(NEVER)[0]
        one, other = lot_book(FORM, NEVER, gap, 1), lot_book(FORM, NEVER, gap, -1)
        for _ in range(60):
            parts = as_dict(other)
            place = random.choice(sorted(parts))
            parts[place] *= random.choice([1, 2, 3])
            if random.randrange(3) == 0:
                del parts[random.choice(sorted(parts))]
            if random.randrange(3) == 0:
                parts[(EARNS, (0, 0))] = parts[sorted(parts)[0]]
            turned = book_with(FORM, parts)
            self.assertIs(self.agrees(FORM, NEVER, LotsApart(gap[0], gap[1], one, turned)), same(turned, other))
        for book in (random_book(random, FORM), Book(FORM, ()), Book(FORM, other.shares[::-1]), Book(Form((("debts", 2), ("earns", 3))), other.shares)):
            self.assertIs(self.agrees(FORM, NEVER, LotsApart(gap[0], gap[1], one, book)), False)

    def test_books_with_one_truth_less(self):
        """Each lot has to come with every truth, though fewer would be free and alike as well."""
        lots, truths = (PAIR,), every_truth(FORM)[1:]
        one = book_with(FORM, {(PAIR, truth): 1 for truth in truths})
        other = book_with(FORM, {(PAIR, truth): at + 1 for at, truth in enumerate(truths)})
        self.assertEqual(plain_sheets(one), plain_sheets(other))
        self.assertIs(self.agrees(FORM, lots, LotsApart(PAIR, (), one, other)), False)
        whole = book_with(FORM, {(PAIR, truth): at + 1 for at, truth in enumerate(every_truth(FORM))})
        even = book_with(FORM, {(PAIR, truth): 1 for truth in every_truth(FORM)})
        self.assertIs(self.agrees(FORM, lots, LotsApart(PAIR, (), whole, even)), True)
        self.assertIs(self.agrees(FORM, lots, LotsApart(PAIR, DEBTS, whole, even)), True)
        self.assertIs(self.agrees(FORM, lots, LotsApart(PAIR, PAIR, whole, even)), False)

    def test_books_of_another_form(self):
        """Both have the same questions, but more answers, which nobody gives."""
        paper = lots_paper(FORM, NEVER)
        wide = Form((("debts", 2), ("earns", 3)))
        one, other = Book(wide, paper.one.shares), Book(wide, paper.other.shares)
        for pair in ((one, other), (paper.one, other), (one, paper.other)):
            self.assertIs(self.agrees(FORM, NEVER, LotsApart(paper.lot, paper.lesser, *pair)), False)

    def test_unlike_parts_with_another_lot(self):
        """The two books have to be unlike with the lot that is told."""
        lots = (DEBTS, EARNS)
        one, other = lot_book(FORM, lots, (DEBTS, ()), 1), lot_book(FORM, lots, (DEBTS, ()), -1)
        self.assertIs(self.agrees(FORM, lots, LotsApart(DEBTS, (), one, other)), True)
        self.assertIs(self.agrees(FORM, lots, LotsApart(EARNS, (), one, other)), part(one, EARNS) != part(other, EARNS))

    def test_other_books_will_do(self):
        random = seeded(393)
        gap = gaps(NEVER)[0]
        one, other = lot_book(FORM, NEVER, gap, 1), lot_book(FORM, NEVER, gap, -1)
        for _ in range(10):
            book = free_book(random, FORM, NEVER, every_truth(FORM))
            self.assertIs(self.agrees(FORM, NEVER, LotsApart(gap[0], gap[1], one, book)), same(plain_sheets(book), plain_sheets(one)))
        half = book_with(FORM, {place: as_dict(one)[place] + as_dict(other)[place] for place in as_dict(one)})
        self.assertIs(self.agrees(FORM, NEVER, LotsApart(gap[0], gap[1], one, half)), True)

    def test_the_greatest_forms(self):
        form = Form((("a", 3), ("b", 3), ("c", 3)))
        for lots in ((("a", "b", "c"),), ((), ("a", "b", "c")), ((), ("a",), ("a", "b"), ("a", "b", "c"), ("c",))):
            self.assertIs(check_lots(form, lots, lots_paper(form, lots)), True)


if __name__ == "__main__":
    unittest.main()
