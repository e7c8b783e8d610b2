"""Point [9]: books."""

import unittest
from fractions import Fraction

from checks import Case
from helpers import (
    FORM, HUGE, WIDE, any_values, deep, every_truth, frac, mutants, names, pair_of, random_book, random_form, same, seeded, subsets,
)
from test_forms import fault as form_fault
from test_fractions import fault as fraction_fault
from whyblank.books import (
    Book, gathered_book, is_book, lot_shares, lots_in, mixed_book, need_book, part, share_of, truth_shares,
)
from whyblank.errors import InvalidBook, InvalidSize, Refused
from whyblank.forms import Form
from whyblank.sheets import Sheets

TOWN = Book(FORM, (
    ((), (0, 0), (3, 8)), ((), (0, 1), (1, 8)), ((), (1, 1), (1, 8)), (("debts",), (0, 1), (1, 8)), (("debts",), (1, 1), (1, 4)),
))
ALONE = Book(FORM, (((), (0, 0), (1, 1)),))


def fault(value):
    """What is wrong with any value as a book, told apart from the package."""
    if type(value) is not Book or form_fault(value.form) is not None or type(value.shares) is not tuple:
        return -1
    total = Fraction(0)
    for at, one in enumerate(value.shares):
        if type(one) is not tuple or len(one) != 3 or not any(same(one[0], lot) for lot in subsets(names(value.form))):
            return at
        if not any(same(one[1], truth) for truth in every_truth(value.form)):
            return at
        if fraction_fault(one[2]) is not None or frac(one[2]) <= 0:
            return at
        if at and not value.shares[at - 1][:2] < one[:2]:
            return at
        total += frac(one[2])
    return None if total == 1 else len(value.shares)


class Books(Case):
    def test_a_book_checks_nothing(self):
        for value in any_values():
            book = Book(value, shares=value)
            self.assertTrue(same(book.form, value) and same(book.shares, value))
            self.assertEqual(sorted(vars(book)), ["form", "shares"])

    def test_equal(self):
        self.assertEqual(TOWN, Book(FORM, TOWN.shares))
        self.assertEqual(TOWN, Book(Form(FORM.questions), TOWN.shares))
        self.assertNotEqual(TOWN, Book(WIDE, TOWN.shares))
        self.assertNotEqual(TOWN, Book(FORM, TOWN.shares[1:]))
        self.assertFalse(TOWN == Sheets(FORM, TOWN.shares))
        self.assertFalse(Book(None, None) == Sheets(None, None))
        for value in any_values():
            self.assertFalse(TOWN == value)

    def test_books(self):
        for book in (TOWN, ALONE, Book(Form((("a", 2),)), (((), (1,), (1, 1)),))):
            self.assertIsNone(need_book(book))
            self.assertIs(is_book(book), True)
        self.assertIsNone(need_book(value=TOWN))
        self.assertIs(is_book(value=TOWN), True)

    def test_no_book_of_a_form_and_a_tuple(self):
        wrong = [None, TOWN.shares, Book(None, TOWN.shares), Book(Form(()), ()), Book(FORM, list(TOWN.shares)), Book(FORM, None)]
        for value in wrong + [Book(FORM, FORM), Book(TOWN, TOWN.shares), Sheets(FORM, ()), deep(TOWN), HUGE]:
            self.fails(InvalidBook, -1, need_book, value)
            self.assertIs(is_book(value), False)

    def test_wrong_things(self):
        wrong = [
            None, (), ((), (0, 0)), ((), (0, 0), (1, 2), 1), [(), (0, 0), (1, 2)], ([], (0, 0), (1, 2)), ((), [0, 0], (1, 2)),
            ((), (0, 0), [1, 2]), ((), (0, 0), (0, 1)), ((), (0, 0), (-1, 2)), ((), (0, 0), (2, 4)), ((), (0, 0), (1, 0)),
            ((), (0, 0), 1), ((), (0, 2), (1, 2)), ((), (-1, 0), (1, 2)), ((), (0,), (1, 2)), ((), (True, 0), (1, 2)),
            (("pets",), (0, 0), (1, 2)), (("earns", "debts"), (0, 0), (1, 2)), ("debts", (0, 0), (1, 2)), ((), (0, 0), (True, 2)),
        ]
        for one in wrong:
            self.fails(InvalidBook, 0, need_book, Book(FORM, (one,)))
            self.fails(InvalidBook, 1, need_book, Book(FORM, (((), (0, 0), (1, 2)), one)))
            self.fails(InvalidBook, 0, need_book, Book(FORM, (one, one, ((), (0, 0), (1, 2)))))

    def test_not_above(self):
        half = ((), (0, 1), (1, 2))
        self.fails(InvalidBook, 1, need_book, Book(FORM, (half, half)))
        self.fails(InvalidBook, 1, need_book, Book(FORM, (half, ((), (0, 1), (1, 3)))))
        self.fails(InvalidBook, 1, need_book, Book(FORM, (half, ((), (0, 0), (1, 2)))))
        self.fails(InvalidBook, 1, need_book, Book(FORM, ((("debts",), (0, 0), (1, 2)), half)))

    def test_not_1_together(self):
        self.fails(InvalidBook, 0, need_book, Book(FORM, ()))
        self.fails(InvalidBook, 1, need_book, Book(FORM, (((), (0, 0), (1, 2)),)))
        self.fails(InvalidBook, 1, need_book, Book(FORM, (((), (0, 0), (HUGE, 1)),)))
        self.fails(InvalidBook, 5, need_book, Book(FORM, TOWN.shares[:4] + (TOWN.shares[4][:2] + ((1, 3),),)))

    def test_any_values(self):
        for value in any_values() + list(mutants(TOWN)) + list(mutants(ALONE)):
            self.assertEqual(self.need_and_is(need_book, is_book, InvalidBook, value), fault(value))


class Shares(Case):
    def test_gathered(self):
        random = seeded(4)
        for _ in range(60):
            book = random_book(random, random_form(random), random.choice([1, 2, 5, None]))
            rows = []
            for lot, truth, share in book.shares:
                first = pair_of(frac(share) * Fraction(random.randrange(0, 4), 3))
                rows += [(lot, truth, first), (lot, truth, (0, 1))]
                rest = frac(share) - frac(first)
                if rest >= 0:
                    rows.append((lot, truth, pair_of(rest)))
                else:
                    rows[-2] = (lot, truth, share)
            random.shuffle(rows)
            kept = list(rows)
            for held in (rows, tuple(rows)):
                found = gathered_book(book.form, held)
                self.assertEqual(found, book)
                self.assertTrue(same(found.shares, book.shares))
            self.assertEqual(rows, kept)
        self.assertEqual(gathered_book(shares=[((), (0, 0), (1, 1))], form=FORM), ALONE)

    def test_noughts_are_left_out(self):
        found = gathered_book(FORM, [((), (0, 0), (1, 1)), ((), (0, 1), (0, 1)), (("earns",), (0, 0), (0, 1))])
        self.assertTrue(same(found.shares, (((), (0, 0), (1, 1)),)))

    def test_total(self):
        for rows in ([], [((), (0, 0), (0, 1))], [((), (0, 0), (1, 2))], [((), (0, 0), (1, 1)), ((), (0, 1), (1, 9))]):
            self.fails(Refused, "total", gathered_book, FORM, rows)

    def test_share_and_part(self):
        random = seeded(5)
        for _ in range(40):
            book = random_book(random, random_form(random), random.choice([1, 3, 9, None]))
            held = {(lot, truth): share for lot, truth, share in book.shares}
            for lot in subsets(names(book.form)):
                for truth in every_truth(book.form):
                    self.assertTrue(same(share_of(book, lot, truth), held.get((lot, truth), (0, 1))))
                rows = tuple((truth, share) for one, truth, share in book.shares if one == lot)
                self.assertTrue(same(part(book, lot), rows))
            self.assertTrue(same(lots_in(book), tuple(sorted({lot for lot, _, _ in book.shares}))))
            for place, call in ((0, lot_shares), (1, truth_shares)):
                sums = {}
                for row in book.shares:
                    sums[row[place]] = sums.get(row[place], Fraction(0)) + frac(row[2])
                self.assertTrue(same(call(book), tuple((key, pair_of(sums[key])) for key in sorted(sums))))
        self.assertEqual(share_of(truth=(0, 0), lot=(), book=TOWN), (3, 8))
        self.assertEqual(part(lot=("debts",), book=TOWN), (((0, 1), (1, 8)), ((1, 1), (1, 4))))
        self.assertEqual(part(TOWN, ("earns",)), ())

    def test_mixed(self):
        random = seeded(6)
        for _ in range(40):
            form = random_form(random)
            one, other = random_book(random, form, 4), random_book(random, form, random.choice([1, None]))
            level = Fraction(random.randrange(0, 5), 4)
            found = mixed_book(one, other, pair_of(level))
            self.assertIs(is_book(found), True)
            for lot in subsets(names(form)):
                for truth in every_truth(form):
                    share = frac(share_of(one, lot, truth)) * (1 - level) + frac(share_of(other, lot, truth)) * level
                    self.assertEqual(frac(share_of(found, lot, truth)), share)
        self.assertEqual(mixed_book(TOWN, ALONE, (0, 1)), TOWN)
        self.assertEqual(mixed_book(TOWN, ALONE, (1, 1)), ALONE)
        self.assertEqual(mixed_book(level=(1, 1), other=ALONE, one=TOWN), ALONE)

    def test_mixed_errors(self):
        other = Book(WIDE, (((), (0, 0, 0), (1, 1)),))
        self.fails(InvalidSize, "form", mixed_book, TOWN, other, (1, 2))
        self.fails(InvalidSize, "form", mixed_book, TOWN, other, (3, 2))
        for level in ((-1, 2), (3, 2), (-1, 1), (2, 1), (10 ** 60 + 1, 10 ** 60)):
            self.fails(InvalidSize, "level", mixed_book, TOWN, ALONE, level)


if __name__ == "__main__":
    unittest.main()
