"""Point [10]: tables of sheets."""

import unittest
from fractions import Fraction

from checks import Case
from helpers import (
    FORM, HUGE, WIDE, any_values, blanked, deep, every_sheet, frac, mutants, names, pair_of, random_book, random_form, random_sheets,
    same, seeded,
)
from test_books import ALONE, TOWN
from test_forms import fault as form_fault
from test_fractions import fault as fraction_fault
from whyblank.books import Book, is_book, mixed_book
from whyblank.errors import InvalidSheets, NoName, Refused
from whyblank.forms import Form, without_names
from whyblank.sheets import (
    Sheets, blank_share, gathered_sheets, is_sheets, need_sheets, sheet_share, sheets_of, struck_book, struck_sheets,
)

BACK = Sheets(FORM, (((-1, 1), (3, 8)), ((0, 0), (3, 8)), ((0, 1), (1, 8)), ((1, 1), (1, 8))))
ONE_SHEET = Sheets(FORM, (((-1, -1), (1, 1)),))


def fault(value):
    """What is wrong with any value as a table of sheets, told apart from the package."""
    if type(value) is not Sheets or form_fault(value.form) is not None or type(value.shares) is not tuple:
        return -1
    total = Fraction(0)
    for at, one in enumerate(value.shares):
        if type(one) is not tuple or len(one) != 2 or not any(same(one[0], sheet) for sheet in every_sheet(value.form)):
            return at
        if fraction_fault(one[1]) is not None or frac(one[1]) <= 0:
            return at
        if at and not value.shares[at - 1][0] < one[0]:
            return at
        total += frac(one[1])
    return None if total == 1 else len(value.shares)


class Tables(Case):
    def test_a_table_checks_nothing(self):
        for value in any_values():
            table = Sheets(value, shares=value)
            self.assertTrue(same(table.form, value) and same(table.shares, value))
            self.assertEqual(sorted(vars(table)), ["form", "shares"])

    def test_equal(self):
        self.assertEqual(BACK, Sheets(Form(FORM.questions), BACK.shares))
        self.assertNotEqual(BACK, Sheets(WIDE, BACK.shares))
        self.assertNotEqual(BACK, Sheets(FORM, BACK.shares[1:]))
        self.assertFalse(Sheets(FORM, ()) == Book(FORM, ()))
        for value in any_values():
            self.assertFalse(BACK == value)

    def test_tables(self):
        for table in (BACK, ONE_SHEET, Sheets(Form((("a", 2),)), (((1,), (1, 1)),))):
            self.assertIsNone(need_sheets(table))
            self.assertIs(is_sheets(table), True)
        self.assertIsNone(need_sheets(value=BACK))
        self.assertIs(is_sheets(value=BACK), True)

    def test_no_table_of_a_form_and_a_tuple(self):
        wrong = [None, BACK.shares, Sheets(None, ()), Sheets(FORM, list(BACK.shares)), Sheets(FORM, None), Sheets(BACK, BACK.shares)]
        for value in wrong + [Book(FORM, BACK.shares), deep(BACK), HUGE, Sheets(Form(()), ())]:
            self.fails(InvalidSheets, -1, need_sheets, value)
            self.assertIs(is_sheets(value), False)

    def test_wrong_things(self):
        wrong = [
            None, (), ((0, 0),), ((0, 0), (1, 2), 1), [(0, 0), (1, 2)], ([0, 0], (1, 2)), ((0, 0), [1, 2]), ((0, 0), (0, 1)),
            ((0, 0), (-1, 2)), ((0, 0), (2, 4)), ((0, 0), 1), ((0, 2), (1, 2)), ((-2, 0), (1, 2)), ((0,), (1, 2)), ((True, 0), (1, 2)),
            ((0, 0, 0), (1, 2)), (FORM, (1, 2)), ((0, 0), FORM),
        ]
        for one in wrong:
            self.fails(InvalidSheets, 0, need_sheets, Sheets(FORM, (one,)))
            self.fails(InvalidSheets, 1, need_sheets, Sheets(FORM, (((-1, -1), (1, 2)), one)))
            self.fails(InvalidSheets, 0, need_sheets, Sheets(FORM, (one, one)))

    def test_not_above(self):
        half = ((0, 0), (1, 2))
        self.fails(InvalidSheets, 1, need_sheets, Sheets(FORM, (half, half)))
        self.fails(InvalidSheets, 1, need_sheets, Sheets(FORM, (half, ((0, -1), (1, 2)))))

    def test_not_1_together(self):
        self.fails(InvalidSheets, 0, need_sheets, Sheets(FORM, ()))
        self.fails(InvalidSheets, 1, need_sheets, Sheets(FORM, (((0, 0), (1, 2)),)))
        self.fails(InvalidSheets, 2, need_sheets, Sheets(FORM, (((0, 0), (1, 2)), ((0, 1), (2, 1)))))

    def test_any_values(self):
        for value in any_values() + list(mutants(BACK)) + list(mutants(ONE_SHEET)):
            self.assertEqual(self.need_and_is(need_sheets, is_sheets, InvalidSheets, value), fault(value))


class Shares(Case):
    def test_gathered(self):
        random = seeded(7)
        for _ in range(60):
            table = random_sheets(random, random_form(random), random.choice([1, 2, 5, None]))
            rows = []
            for sheet, share in table.shares:
                first = frac(share) * Fraction(random.randrange(0, 4), 3)
                first = min(first, frac(share))
                rows += [(sheet, pair_of(first)), (sheet, (0, 1)), (sheet, pair_of(frac(share) - first))]
            random.shuffle(rows)
            kept = list(rows)
            for held in (rows, tuple(rows)):
                self.assertTrue(same(gathered_sheets(table.form, held), table))
            self.assertEqual(rows, kept)
        self.assertEqual(gathered_sheets(shares=[((-1, -1), (1, 1))], form=FORM), ONE_SHEET)

    def test_total(self):
        for rows in ([], [((0, 0), (0, 1))], [((0, 0), (1, 2))], [((0, 0), (1, 1)), ((0, 1), (1, 9))]):
            self.fails(Refused, "total", gathered_sheets, FORM, rows)

    def test_sheet_share(self):
        for sheet in every_sheet(FORM):
            self.assertTrue(same(sheet_share(BACK, sheet), dict(BACK.shares).get(sheet, (0, 1))))
        self.assertEqual(sheet_share(sheet=(0, 0), sheets=BACK), (3, 8))

    def test_sheets_of(self):
        self.assertTrue(same(sheets_of(TOWN), BACK))
        self.assertTrue(same(sheets_of(book=ALONE), Sheets(FORM, (((0, 0), (1, 1)),))))
        random = seeded(8)
        for _ in range(40):
            book = random_book(random, random_form(random), random.choice([1, 3, 9, None]))
            sums = {}
            for lot, truth, share in book.shares:
                sheet = blanked(book.form, lot, truth)
                sums[sheet] = sums.get(sheet, Fraction(0)) + frac(share)
            expected = Sheets(book.form, tuple((sheet, pair_of(sums[sheet])) for sheet in sorted(sums)))
            self.assertTrue(same(sheets_of(book), expected))
            self.assertIs(is_sheets(sheets_of(book)), True)

    def test_blank_share(self):
        self.assertEqual(blank_share(BACK, "debts"), (3, 8))
        self.assertEqual(blank_share(BACK, "earns"), (0, 1))
        self.assertEqual(blank_share(name="earns", sheets=ONE_SHEET), (1, 1))

    def test_no_name(self):
        for value in any_values():
            if value in ("debts", "earns"):
                continue
            for call, thing in ((blank_share, BACK), (struck_book, TOWN), (struck_sheets, BACK)):
                with self.assertRaises(NoName) as held:
                    call(thing, value)
                self.assertIs(held.exception.name, value)

    def test_last_question(self):
        form = Form((("a", 2),))
        book, table = Book(form, (((), (0,), (1, 1)),)), Sheets(form, (((0,), (1, 1)),))
        self.fails(Refused, "last", struck_book, book, "a")
        self.fails(Refused, "last", struck_sheets, table, "a")
        for call, thing in ((struck_book, book), (struck_sheets, table)):
            self.fails(NoName, "b", call, thing, "b")

    def test_struck(self):
        self.assertEqual(
            struck_book(TOWN, "debts"), Book(Form((("earns", 2),)), (((), (0,), (3, 8)), ((), (1,), (5, 8)))))
        self.assertEqual(struck_sheets(BACK, "earns"), Sheets(
            Form((("debts", 2),)), (((-1,), (3, 8)), ((0,), (1, 2)), ((1,), (1, 8)))))
        self.assertEqual(struck_book(name="debts", book=TOWN), struck_book(TOWN, "debts"))
        self.assertEqual(struck_sheets(name="debts", sheets=BACK), struck_sheets(BACK, "debts"))
        random = seeded(9)
        for _ in range(40):
            form = random_form(random)
            while len(form.questions) == 1:
                form = random_form(random)
            book = random_book(random, form, random.choice([1, 3, 9, None]))
            for place, name in enumerate(names(form)):
                struck = struck_book(book, name)
                self.assertIs(is_book(struck), True)
                self.assertEqual(struck.form.questions, form.questions[:place] + form.questions[place + 1:])
                sums = {}
                for lot, truth, share in book.shares:
                    key = (without_names(lot, (name,)), truth[:place] + truth[place + 1:])
                    sums[key] = sums.get(key, Fraction(0)) + frac(share)
                self.assertTrue(same(struck.shares, tuple(key + (pair_of(sums[key]),) for key in sorted(sums))))
                self.assertTrue(same(sheets_of(struck), struck_sheets(sheets_of(book), name)))

    def test_mixed_books_have_mixed_sheets(self):
        random = seeded(10)
        for _ in range(30):
            form = random_form(random)
            one, other = random_book(random, form, 5), random_book(random, form)
            level = Fraction(random.randrange(0, 8), 7)
            table = sheets_of(mixed_book(one, other, pair_of(level)))
            for sheet in every_sheet(form):
                share = frac(sheet_share(sheets_of(one), sheet)) * (1 - level) + frac(sheet_share(sheets_of(other), sheet)) * level
                self.assertEqual(frac(sheet_share(table, sheet)), share)


if __name__ == "__main__":
    unittest.main()
