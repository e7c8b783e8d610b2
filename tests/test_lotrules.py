"""Points [49] to [52]: lots that are never left blank."""

import itertools
import unittest
from fractions import Fraction

from checks import Case
from helpers import (
    FORM, HUGE, WIDE, any_values, as_dict, blanked, book_with, closed_family, deep, every_truth, frac, free_book, mutants, names, pair_of,
    plain_own_blanks, plain_sheets, random_form, random_sheets, same, seeded, some_truths, subsets,
)
from test_weights import DEBTS, EARNS, PAIR, plain_weight, table
from whyblank.books import lots_in, need_book, part, truth_shares
from whyblank.errors import InvalidSize, Refused
from whyblank.forms import Form
from whyblank.lotrules import (
    closed_families, closed_over, gaps, lean, linked, lot_book, lot_part, need_family, told_lots, two_lot_books,
)
from whyblank.onebook import one_book
from whyblank.sheets import sheets_of

THREE = Form((("a", 2), ("b", 2), ("c", 2)))
NEVER = ((), DEBTS, PAIR)


def every_family(form):
    lots = subsets(names(form))
    return [tuple(sorted(some)) for many in range(1, len(lots) + 1) for some in itertools.combinations(lots, many)]


def random_family(random, form):
    lots = subsets(names(form))
    return tuple(sorted(random.sample(lots, random.randrange(1, len(lots) + 1))))


def plain_gaps(lots):
    return [(lot, lesser) for lot in lots for lesser in subsets(lot) if lesser not in lots]


def is_closed(lots):
    return not plain_gaps(lots)


class Families(Case):
    def judged(self, form, value):
        lots = subsets(names(form))
        if type(value) is not tuple or not value or not all(any(same(one, lot) for lot in lots) for one in value):
            return False
        return list(value) == sorted(set(value))

    def test_any_values(self):
        for form in (FORM, THREE, Form((("debts", 2),))):
            values = any_values() + list(mutants(((), DEBTS, PAIR))) + list(mutants(((),))) + every_family(FORM)
            values += [(DEBTS, ()), ((), ()), (PAIR, PAIR), ([],), (("earns", "debts"),), (("debts", "debts"),), deep(((),)), ((), HUGE)]
            for value in values:
                if self.judged(form, value):
                    self.assertIsNone(need_family(form, value))
                else:
                    self.fails(InvalidSize, "lots", need_family, form, value)
        self.assertIsNone(need_family(value=((),), form=FORM))

    def test_gaps(self):
        for form in (FORM, Form((("a", 2),))):
            for lots in every_family(form):
                self.assertTrue(same(gaps(lots), tuple(sorted(plain_gaps(lots)))))
        random = seeded(120)
        for _ in range(40):
            lots = random_family(random, random.choice([WIDE, Form((("a", 2), ("b", 2), ("c", 2), ("d", 2)))]))
            self.assertTrue(same(gaps(lots), tuple(sorted(plain_gaps(lots)))))
        self.assertEqual(gaps(lots=NEVER), ((PAIR, EARNS),))
        self.assertEqual(gaps((DEBTS,)), ((DEBTS, ()),))
        self.assertEqual(gaps(((), DEBTS)), ())

    def test_least_closed_over_and_greatest_closed_within(self):
        for lots in every_family(THREE)[::3]:
            closed = [some for some in CLOSED if set(lots) <= set(some)]
            least = min(closed, key=len)
            self.assertTrue(all(set(least) <= set(some) for some in closed))
            self.assertTrue(same(closed_over(lots), least))
            within = [some for some in CLOSED if set(some) <= set(lots)]
            greatest = max(within, key=len) if within else ()
            self.assertTrue(all(set(some) <= set(greatest) for some in within))
            self.assertTrue(same(told_lots(lots), greatest))
        self.assertEqual((closed_over(lots=NEVER), told_lots(lots=NEVER)), (((), DEBTS, PAIR, EARNS), ((), DEBTS)))
        self.assertEqual((closed_over((PAIR,)), told_lots((PAIR,))), (((), DEBTS, PAIR, EARNS), ()))

    def test_told_lots_one_by_one(self):
        random = seeded(121)
        for _ in range(50):
            lots = random_family(random, WIDE)
            expected = tuple(lot for lot in lots if all(lesser in lots for lesser in subsets(lot)))
            self.assertEqual(told_lots(lots), expected)

    def test_closed_families(self):
        for many, expected in ((1, 2), (2, 5), (3, 19), (4, 167)):
            form = Form(tuple((name, 2 + at) for at, name in enumerate("abcd"[:many])))
            found = closed_families(form)
            self.assertEqual(len(found), expected)
            self.assertEqual(list(found), sorted(set(found)))
            for some in found:
                self.assertIsNone(need_family(form, some))
                self.assertEqual(gaps(some), ())
            if many < 4:
                self.assertEqual(set(found), {lots for lots in every_family(form) if is_closed(lots)})
        self.assertEqual(closed_families(form=Form((("a", 3),))), (((),), ((), ("a",))))


CLOSED = [lots for lots in every_family(THREE) if is_closed(lots)]


class Linked(Case):
    def walked(self, lots, lot, chosen):
        found, fresh = {lot}, [lot]
        while fresh:
            here = set(fresh.pop())
            for name in chosen:
                other = tuple(sorted(here ^ {name}))
                if other in lots and other not in found:
                    found.add(other)
                    fresh.append(other)
        return tuple(sorted(found))

    def test_by_an_own_walk(self):
        random = seeded(122)
        for _ in range(200):
            form = random.choice([FORM, THREE, Form((("a", 2), ("b", 2), ("c", 2), ("d", 2)))])
            lots = random_family(random, form)
            lot, chosen = random.choice(lots), random.choice(subsets(names(form)))
            self.assertTrue(same(linked(lots, lot, chosen), self.walked(lots, lot, chosen)))
        self.assertEqual(linked(names=DEBTS, lot=PAIR, lots=NEVER), (PAIR,))
        self.assertEqual(linked(NEVER, PAIR, EARNS), (DEBTS, PAIR))
        self.assertEqual(linked(NEVER, DEBTS, PAIR), NEVER)
        self.assertEqual(linked(NEVER, DEBTS, ()), (DEBTS,))

    def test_each_linked_lot_has_one_of_the_names(self):
        for lots in every_family(THREE)[::2]:
            for lot, lesser in gaps(lots):
                lacking = tuple(name for name in lot if name not in lesser)
                for other in linked(lots, lot, lacking):
                    self.assertTrue(set(other) & set(lacking))


class Leans(Case):
    def test_lean(self):
        signs = {0: 1, 1: -1}
        for form in (FORM, WIDE, Form((("a", 4), ("b", 3)))):
            for chosen in subsets(names(form)):
                for truth in every_truth(form):
                    expected = 1
                    for name, answer in zip(names(form), truth):
                        expected *= signs.get(answer, 0) if name in chosen else 1
                    self.assertTrue(same(lean(form, chosen, truth), expected))
                for at, (name, many) in enumerate(form.questions):
                    if name in chosen:
                        for truth in every_truth(form):
                            total = sum(lean(form, chosen, truth[:at] + (one,) + truth[at + 1:]) for one in range(many))
                            self.assertEqual(total, 0)
        self.assertEqual(lean(truth=(0, 1), names=EARNS, form=FORM), -1)


class Books(Case):
    def plain_book(self, form, lots, gap, side):
        lacking = tuple(name for name in gap[0] if name not in gap[1])
        leaning = linked(lots, gap[0], lacking)
        parts = {}
        for lot in lots:
            for truth in every_truth(form):
                strength = Fraction(side * lean(form, lacking, truth), 2) if lot in leaning else 0
                parts[(lot, truth)] = 1 + strength
        return book_with(form, parts)

    def test_word_by_word(self):
        random = seeded(123)
        for _ in range(40):
            form = random.choice([FORM, WIDE, Form((("a", 3), ("b", 3))), THREE])
            lots = random_family(random, form)
            for gap in gaps(lots)[:3]:
                for side in (1, -1):
                    book = lot_book(form, lots, gap, side)
                    self.assertIsNone(need_book(book))
                    self.assertTrue(same(book, self.plain_book(form, lots, gap, side)))
        gap = (PAIR, EARNS)
        self.assertEqual(lot_book(side=-1, gap=gap, lots=NEVER, form=FORM), self.plain_book(FORM, NEVER, gap, -1))

    def test_errors(self):
        gap = (PAIR, EARNS)
        for value in any_values() + list(mutants(gap)) + [(PAIR, DEBTS), (PAIR, ()), (DEBTS, ())]:
            if not same(value, gap):
                for side in (1, -1, 0, None):
                    self.fails(InvalidSize, "gap", lot_book, FORM, NEVER, value, side)
        for value in any_values() + [2, -2, True, "1", (1,), [1]]:
            if not same(value, 1) and not same(value, -1):
                self.fails(InvalidSize, "side", lot_book, FORM, NEVER, gap, value)
        for value in any_values() + list(mutants(PAIR)) + [EARNS]:
            if not any(same(value, lot) for lot in NEVER):
                self.fails(Refused, "lot", two_lot_books, FORM, NEVER, value)
        for lot in ((), DEBTS):
            self.fails(Refused, "told", two_lot_books, FORM, NEVER, lot)
        self.fails(InvalidSize, "gap", lot_book, FORM, ((), DEBTS), gap, 1)

    def test_both_books_of_a_lot_with_a_gap(self):
        random = seeded(124)
        for _ in range(60):
            form = random.choice([FORM, WIDE, THREE, Form((("a", 3), ("b", 2), ("c", 3)))])
            lots = random_family(random, form)
            for lot in lots:
                if lot in told_lots(lots):
                    self.fails(Refused, "told", two_lot_books, form, lots, lot)
                    continue
                pair = two_lot_books(form, lots, lot)
                first = [gap for gap in gaps(lots) if gap[0] == lot][0]
                self.assertTrue(same(pair, (lot_book(form, lots, first, 1), lot_book(form, lots, first, -1))))
                for book in pair:
                    self.assertEqual(set(as_dict(book)), {(some, truth) for some in lots for truth in every_truth(form)})
                    self.assertEqual(plain_own_blanks(book), ())
                self.assertTrue(same(plain_sheets(pair[0]), plain_sheets(pair[1])))
                self.assertNotEqual(part(pair[0], lot), part(pair[1], lot))
                self.assertNotEqual(truth_shares(pair[0]), truth_shares(pair[1]))
        self.assertEqual(two_lot_books(lot=PAIR, lots=NEVER, form=FORM), two_lot_books(FORM, NEVER, PAIR))


class Parts(Case):
    def plain_part(self, one, lot):
        """The part with a lot, or the word of what is refused, told apart from the package."""
        shares = {sheet: frac(share) for sheet, share in one.shares}
        truths = [sheet for sheet in shares if -1 not in sheet]
        by_lot = {lesser: {blanked(one.form, lesser, truth) for truth in truths} for lesser in subsets(lot)}
        come = {}
        for sheet in shares:
            come.setdefault(tuple(name for name, answer in zip(names(one.form), sheet) if answer == -1), set()).add(sheet)
        if any(lesser not in come for lesser in by_lot):
            return "lots"
        if any(come[lesser] != by_lot[lesser] for lesser in by_lot):
            return "rows"
        found = []
        for truth in sorted(truths):
            product = shares[truth]
            for lesser in subsets(lot):
                product *= plain_weight(one, blanked(one.form, lesser, truth)) if lesser else 1
            found.append((truth, pair_of(product)))
        return tuple(found)

    def test_word_by_word(self):
        random = seeded(125)
        words = set()
        for _ in range(60):
            form = random_form(random, 3, 2)
            one = random_sheets(random, form, random.choice([3, 8, 20, None]))
            for lot in subsets(names(form)):
                expected = self.plain_part(one, lot)
                if isinstance(expected, str):
                    words.add(expected)
                    self.fails(Refused, expected, lot_part, one, lot)
                else:
                    self.assertTrue(same(lot_part(one, lot), expected))
        self.assertEqual(words, {"lots", "rows"})
        one = table(FORM, [(0, 0), (-1, 0)])
        self.assertEqual(lot_part(lot=(), sheets=one), (((0, 0), (2, 3)),))

    def test_errors(self):
        self.fails(Refused, "lots", lot_part, table(FORM, [(-1, 0)]), ())
        self.fails(Refused, "lots", lot_part, table(FORM, [(0, 0), (-1, -1), (0, -1)]), PAIR)
        self.fails(Refused, "lots", lot_part, table(FORM, [(0, 0), (0, -1)]), DEBTS)
        self.fails(Refused, "lots", lot_part, table(FORM, [(0, 0), (0, 1), (-1, 0), (-1, -1)]), PAIR)
        self.fails(Refused, "rows", lot_part, table(FORM, [(0, 0), (-1, 1)]), DEBTS)
        self.fails(Refused, "rows", lot_part, table(FORM, [(0, 0), (-1, 0), (1, -1), (-1, -1)]), PAIR)
        self.assertEqual(len(lot_part(table(FORM, [(0, 0), (1, 0), (-1, 0), (1, -1)]), DEBTS)), 2)

    def test_sheets_of_other_lots_do_not_matter(self):
        random = seeded(126)
        for _ in range(25):
            form = random_form(random)
            lots = closed_family(random, form)
            book = free_book(random, form, lots, every_truth(form))
            lot = random.choice(lots)
            shares = {sheet: frac(share) for sheet, share in sheets_of(book).shares}
            for sheet in shares:
                if not set(name for name, answer in zip(names(form), sheet) if answer == -1) <= set(lot):
                    shares[sheet] *= random.randrange(1, 5)
            total = sum(shares.values())
            turned = type(sheets_of(book))(form, tuple((sheet, pair_of(share / total)) for sheet, share in sorted(shares.items())))
            expected = tuple((truth, pair_of(frac(share) / total)) for truth, share in part(book, lot))
            self.assertTrue(same(lot_part(turned, lot), expected))

    def test_parts_of_free_books(self):
        """All lots without a gap are told, also where the family is not closed; the others are not."""
        random = seeded(127)
        for _ in range(60):
            form = random.choice([FORM, WIDE, THREE, Form((("a", 3), ("b", 2)))])
            lots = random_family(random, form)
            whole = free_book(random, form, closed_over(lots), every_truth(form))
            books = [book_with(form, {place: share for place, share in as_dict(whole).items() if place[0] in lots})]
            for lot in lots:
                if lot not in told_lots(lots):
                    books += list(two_lot_books(form, lots, lot))
            for book in books:
                self.assertEqual(plain_own_blanks(book), ())
                self.assertEqual(lots_in(book), lots)
                for lot in told_lots(lots):
                    self.assertTrue(same(lot_part(sheets_of(book), lot), part(book, lot)))
                if is_closed(lots):
                    self.assertEqual(one_book(sheets_of(book)), book)

    def test_rows_as_well(self):
        random = seeded(128)
        for _ in range(25):
            form = random_form(random)
            lots, truths = closed_family(random, form), some_truths(random, form)
            one = sheets_of(free_book(random, form, lots, truths))
            for lot in lots:
                self.assertTrue(same(lot_part(one, lot), part(one_book(one), lot)))


if __name__ == "__main__":
    unittest.main()
