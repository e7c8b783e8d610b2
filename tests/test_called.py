"""Points [65] to [67]: called sheets."""

import itertools
import unittest
from fractions import Fraction

from checks import Case
from helpers import (
    FORM, WIDE, any_values, as_dict, blanked, book_with, every_truth, frac, free_book, free_for, lot_on, mutants, names, pair_of,
    plain_sheets, random_book, random_form, same, seeded, subsets,
)
from test_books import fault as book_fault
from test_forms import fault as form_fault
from test_fractions import fault as fraction_fault
from test_weights import DEBTS, EARNS, PAIR
from whyblank.books import Book
from whyblank.called import (
    CalledSheets, book_called, called_share, called_sheets, called_weight, is_called, is_full, need_called, uncalled,
)
from whyblank.errors import InvalidSheets, Refused
from whyblank.forms import Form
from whyblank.onebook import one_book
from whyblank.sheets import is_sheets, sheets_of

SOLE = Form((("pets", 2),))
PETS = ("pets",)
RIGHT = CalledSheets(FORM, DEBTS, (((), (0, 1), (1, 2)), (DEBTS, (1, 1), (1, 4)), (PAIR, (0, -1), (1, 8)), (EARNS, (1, -1), (1, 8))))


def is_lot(form, value):
    return any(same(value, lot) for lot in subsets(names(form)))


def left(lot, called):
    return tuple(name for name in lot if name not in called)


def may_come(form, called, lot):
    """The sheets that may come with a lot."""
    return sorted({blanked(form, left(lot, called), truth) for truth in every_truth(form)})


def fault(value):
    """What is wrong with any value as a table of called sheets, told apart from the package."""
    if type(value) is not CalledSheets or form_fault(value.form) is not None or not is_lot(value.form, value.called):
        return -1
    if type(value.shares) is not tuple:
        return -1
    for at, one in enumerate(value.shares):
        if type(one) is not tuple or len(one) != 3 or not is_lot(value.form, one[0]):
            return at
        if not any(same(one[1], sheet) for sheet in may_come(value.form, value.called, one[0])):
            return at
        if fraction_fault(one[2]) is not None or one[2][0] <= 0 or (at and not value.shares[at - 1][:2] < one[:2]):
            return at
    return None if sum(frac(one[2]) for one in value.shares) == 1 else len(value.shares)


def plain_called(book, called):
    parts = {}
    for (lot, truth), share in as_dict(book).items():
        key = (lot, blanked(book.form, left(lot, called), truth))
        parts[key] = parts.get(key, 0) + share
    return CalledSheets(book.form, called, tuple(sorted((lot, sheet, pair_of(share)) for (lot, sheet), share in parts.items())))


def plain_weights(value):
    """The weights of all lots and sheets of a full table, word by word."""
    shares = {(lot, sheet): frac(share) for lot, sheet, share in value.shares}
    found = {}
    for lot, sheet in sorted(shares, key=lambda place: place[1].count(-1)):
        others = left(lot, value.called)
        held = tuple(name for name in lot if name in value.called)
        found[(lot, sheet)], total = Fraction(1), Fraction(0)
        if others:
            for truth in every_truth(value.form):
                if blanked(value.form, others, truth) == sheet:
                    term = shares[(held, truth)]
                    for lesser in subsets(others):
                        if lesser not in ((), others):
                            term *= found[(tuple(sorted(held + lesser)), blanked(value.form, lesser, truth))]
                    total += term
            found[(lot, sheet)] = shares[(lot, sheet)] / total
    return found


def plain_book(value):
    shares = {(lot, sheet): frac(share) for lot, sheet, share in value.shares}
    found, parts = plain_weights(value), {}
    for lot in subsets(names(value.form)):
        held = tuple(name for name in lot if name in value.called)
        for truth in every_truth(value.form):
            product = shares[(held, truth)]
            for lesser in subsets(left(lot, value.called)):
                product *= found[(tuple(sorted(held + lesser)), blanked(value.form, lesser, truth))] if lesser else 1
            parts[(lot, truth)] = product
    return parts


def full_tables(number, many):
    random = seeded(number)
    for _ in range(many):
        form = random.choice([SOLE, FORM, Form((("a", 3), ("b", 2))), Form((("a", 2), ("b", 2), ("c", 2)))])
        yield called_sheets(random_book(random, form), random.choice(subsets(names(form))))


class Tables(Case):
    def agrees(self, value):
        told = self.need_and_is(need_called, is_called, InvalidSheets, value)
        self.assertTrue(same(told, fault(value)), value)

    def test_any_values(self):
        for value in any_values() + list(mutants(RIGHT)):
            self.agrees(value)
        for value in any_values():
            self.agrees(CalledSheets(value, (), ()))
            self.agrees(CalledSheets(FORM, value, RIGHT.shares))
            self.agrees(CalledSheets(FORM, (), value))
            self.agrees(CalledSheets(FORM, (), (value,)))
            self.agrees(CalledSheets(FORM, (), ((value, (0, 0), (1, 1)),)))
            self.agrees(CalledSheets(FORM, (), (((), value, (1, 1)),)))
            self.agrees(CalledSheets(FORM, (), (((), (0, 0), value),)))
        self.assertIsNone(need_called(value=RIGHT))
        self.assertIs(is_called(value=RIGHT), True)

    def test_right_tables(self):
        for value in full_tables(200, 20):
            self.agrees(value)
            self.assertIs(is_called(value), True)
            for called in subsets(names(value.form)):
                self.agrees(CalledSheets(value.form, called, value.shares))

    def test_what_is_wrong_first(self):
        shares = RIGHT.shares
        told = [
            (-1, None), (-1, shares), (-1, CalledSheets(None, DEBTS, shares)), (-1, CalledSheets(FORM, None, shares)),
            (-1, CalledSheets(FORM, ["debts"], shares)), (-1, CalledSheets(FORM, DEBTS, list(shares))), (0, CalledSheets(FORM, (), (None,))),
            (0, CalledSheets(FORM, DEBTS, (shares[0][:2],))), (1, CalledSheets(FORM, (), shares)), (1, CalledSheets(FORM, PAIR, (shares[0], shares[2]))),
            (1, CalledSheets(FORM, DEBTS, (shares[1], shares[0]))), (1, CalledSheets(FORM, DEBTS, (shares[0], shares[0]))),
            (0, CalledSheets(FORM, DEBTS, (((), (0, 1), (0, 1)),))), (0, CalledSheets(FORM, DEBTS, (((), (0, 1), (2, 2)),))),
            (3, CalledSheets(FORM, DEBTS, shares[:3])), (0, CalledSheets(FORM, DEBTS, ())), (0, CalledSheets(FORM, (), (((), (0, -1), (1, 1)),))),
        ]
        for at, value in told:
            self.assertEqual(fault(value), at)
            self.fails(InvalidSheets, at, need_called, value)

    def test_classes(self):
        self.assertTrue(RIGHT == CalledSheets(shares=RIGHT.shares, called=DEBTS, form=Form(FORM.questions)))
        for other in (CalledSheets(WIDE, DEBTS, RIGHT.shares), CalledSheets(FORM, (), RIGHT.shares), CalledSheets(FORM, DEBTS, ())):
            self.assertFalse(RIGHT == other)
        for value in any_values():
            self.assertFalse(RIGHT == value)
            self.assertTrue(same(CalledSheets(value, value, [value]).shares, [value]))


class OfBooks(Case):
    def test_called_sheets(self):
        random = seeded(201)
        for _ in range(60):
            book = random_book(random, random_form(random), random.choice([1, 4, 12, None]))
            for called in subsets(names(book.form)):
                found = called_sheets(book, called)
                self.assertTrue(same(found, plain_called(book, called)))
                self.assertIsNone(fault(found))
                self.assertTrue(same(uncalled(found), plain_sheets(book)))
                self.assertIs(is_sheets(uncalled(found)), True)
                expected = sum(share for (lot, _), share in as_dict(book).items() if set(lot) & set(called))
                self.assertTrue(same(called_share(book, called), pair_of(expected)))
        book = random_book(random, FORM)
        self.assertEqual(called_sheets(called=DEBTS, book=book), plain_called(book, DEBTS))
        self.assertEqual(uncalled(value=called_sheets(book, DEBTS)), sheets_of(book))
        self.assertEqual(called_share(called=(), book=book), (0, 1))

    def test_nothing_called_and_all_called(self):
        random = seeded(202)
        for _ in range(30):
            book = random_book(random, random_form(random), random.choice([3, None]))
            nothing = called_sheets(book, ())
            self.assertEqual(tuple((sheet, share) for _, sheet, share in sorted(nothing.shares, key=lambda one: one[1])), sheets_of(book).shares)
            self.assertTrue(all(lot == lot_on(book.form, sheet) for lot, sheet, _ in nothing.shares))
            self.assertEqual(called_sheets(book, tuple(names(book.form))).shares, book.shares)

    def test_full(self):
        for value in full_tables(203, 30):
            every = [(lot, sheet) for lot in subsets(names(value.form)) for sheet in may_come(value.form, value.called, lot)]
            self.assertEqual([one[:2] for one in value.shares], every)
            self.assertIs(is_full(value), True)
        random = seeded(204)
        for _ in range(60):
            book = random_book(random, random.choice([SOLE, FORM]), random.choice([2, 3, 7, 15]))
            for called in subsets(names(book.form)):
                value = called_sheets(book, called)
                every = {(lot, sheet) for lot in subsets(names(book.form)) for sheet in may_come(book.form, called, lot)}
                self.assertIs(is_full(value), {one[:2] for one in value.shares} == every)
        self.assertIs(is_full(value=RIGHT), False)


class Weights(Case):
    def test_weights_word_by_word(self):
        for value in full_tables(205, 30):
            found = plain_weights(value)
            for lot in subsets(names(value.form)):
                for sheet in may_come(value.form, value.called, lot):
                    self.assertTrue(same(called_weight(value, lot, sheet), pair_of(found[(lot, sheet)])))
                    if not left(lot, value.called):
                        self.assertEqual(called_weight(value, lot, sheet), (1, 1))
            parts = plain_book(value)
            self.assertEqual(sum(parts.values()), 1)
            self.assertTrue(same(book_called(value), book_with(value.form, parts)))
        value = called_sheets(random_book(seeded(206), FORM), DEBTS)
        self.assertEqual(called_weight(sheet=(0, 0), lot=DEBTS, value=value), (1, 1))
        self.assertEqual(book_called(value=value), book_with(FORM, plain_book(value)))

    def test_not_full(self):
        self.fails(Refused, "nought", called_weight, RIGHT, DEBTS, (1, 1))
        self.fails(Refused, "nought", called_weight, RIGHT, (), (0, 1))
        self.fails(Refused, "nought", book_called, RIGHT)
        random = seeded(207)
        for _ in range(20):
            value = called_sheets(random_book(random, FORM, 6), random.choice(subsets(names(FORM))))
            if not is_full(value):
                self.fails(Refused, "nought", book_called, value)

    def test_books_back(self):
        """The book has these called sheets, and no uncalled blank hangs on its own answer."""
        for value in full_tables(208, 25):
            book = book_called(value)
            self.assertIsNone(book_fault(book))
            self.assertTrue(same(called_sheets(book, value.called), value))
            for name in names(value.form):
                if name not in value.called:
                    self.assertIs(free_for(value.form, as_dict(book), name), True)

    def test_books_whose_uncalled_blanks_are_free_come_back(self):
        random = seeded(209)
        for _ in range(25):
            form = random.choice([SOLE, FORM, Form((("a", 3), ("b", 2))), Form((("a", 2), ("b", 2), ("c", 2)))])
            book = free_book(random, form, subsets(names(form)), every_truth(form))
            for called in subsets(names(form)):
                # A factor for each lot of called blanks and each truth leaves the other blanks free.
                factors = {}
                parts = {}
                for (lot, truth), share in as_dict(book).items():
                    held = (tuple(name for name in lot if name in called), truth)
                    parts[(lot, truth)] = share * factors.setdefault(held, random.randrange(1, 9))
                turned = book_with(form, parts)
                self.assertTrue(same(book_called(called_sheets(turned, called)), turned))

    def test_nothing_called_is_the_one_book(self):
        random = seeded(210)
        for _ in range(15):
            book = random_book(random, random.choice([SOLE, FORM, Form((("a", 2), ("b", 3)))]))
            self.assertTrue(same(book_called(called_sheets(book, ())), one_book(sheets_of(book))))
            self.assertTrue(same(book_called(called_sheets(book, tuple(names(book.form)))), book))

    def test_there_is_just_one_such_book(self):
        """All books with one table of called sheets, in whole numbers, are tried."""
        random = seeded(211)
        for _ in range(4):
            parts = {(held, truth): random.randrange(1, 4) for held in ((), DEBTS) for truth in every_truth(FORM)}
            blanks = {}
            for held in ((), DEBTS):
                for answer in (0, 1):
                    blanks[(held, answer)] = parts[(held, (answer, 0))] + parts[(held, (answer, 1))]
            found = []
            for lows in itertools.product(*[range(many + 1) for many in blanks.values()]):
                some = dict(parts)
                for ((held, answer), many), low in zip(blanks.items(), lows):
                    lot = tuple(sorted(held + EARNS))
                    for last, share in ((0, low), (1, many - low)):
                        if share:
                            some[(lot, (answer, last))] = share
                if free_for(FORM, {place: Fraction(one) for place, one in some.items()}, "earns"):
                    found.append(book_with(FORM, some))
            self.assertEqual(len(found), 1)
            self.assertTrue(same(book_called(called_sheets(found[0], DEBTS)), found[0]))

    def test_the_greatest_form(self):
        form = Form((("a", 3), ("b", 3), ("c", 3)))
        book = random_book(seeded(212), form)
        for called in (("a",), ("a", "c")):
            value = called_sheets(book, called)
            self.assertIs(is_called(value), True)
            self.assertTrue(same(called_sheets(book_called(value), called), value))
        self.assertIsInstance(book_called(called_sheets(book, ("a", "b", "c"))), Book)
        self.assertEqual(PETS, tuple(names(SOLE)))


if __name__ == "__main__":
    unittest.main()
