"""Points [36], [39] to [41]: free and grown books, and the one book of a table of sheets."""

import itertools
import unittest
from fractions import Fraction

from checks import Case
from helpers import (
    FORM, WIDE, any_values, as_dict, blanked, book_with, closed_family, every_sheet, every_truth, frac, free_book, free_for, lot_on, mutants, names,
    pair_of, plain_own_blanks, plain_sheets, random_book, random_chart, random_form, random_maker, random_sheets, same, seeded,
    sheets_with, some_truths, subsets,
)
from test_books import fault as book_fault
from test_weights import DEBTS, EARNS, PAIR, grown, grown_tables, not_grown, table
from whyblank.books import Book, need_book, truth_shares
from whyblank.errors import InvalidSize, NoName, Refused
from whyblank.forms import Form
from whyblank.makers import book_made, free_given_rest
from whyblank.onebook import check_book, grown_book, interplay, is_free, is_grown, one_book, own_blanks
from whyblank.rowrules import two_row_books
from whyblank.sheets import Sheets, sheets_of
from whyblank.ways import own_ways
from whyblank.weights import behind, stretch, weight, weights

SOLE = Form((("debts", 2),))


def plain_grown(book):
    """Whether a book is grown, told apart from the package."""
    heaps = {}
    for lot, truth in as_dict(book):
        heaps.setdefault(lot, set()).add(truth)
    lesser = all(some in heaps for lot in heaps for some in subsets(lot))
    return lesser and len(set(map(frozenset, heaps.values()))) == 1


def plain_weights(one):
    """The weights of the sheets that come in a grown table, those of few blanks first."""
    shares = {sheet: frac(share) for sheet, share in one.shares}
    found = {}
    for sheet in sorted(shares, key=lambda some: some.count(-1)):
        found[sheet], total = Fraction(1), Fraction(0)
        for truth in shares:
            if -1 in sheet and -1 not in truth and blanked(one.form, lot_on(one.form, sheet), truth) == sheet:
                term = shares[truth]
                for lesser in subsets(lot_on(one.form, sheet))[1:]:
                    if blanked(one.form, lesser, truth) != sheet:
                        term *= found[blanked(one.form, lesser, truth)]
                total += term
        if total:
            found[sheet] = shares[sheet] / total
    return found


def plain_one_book(one):
    """The one book of a grown table, word by word."""
    parts = {}
    shares = {sheet: frac(share) for sheet, share in one.shares}
    lots = {lot_on(one.form, sheet) for sheet in shares}
    found = plain_weights(one)
    for lot in lots:
        for truth in shares:
            if -1 not in truth:
                product = shares[truth]
                for lesser in subsets(lot):
                    product *= found[blanked(one.form, lesser, truth)] if lesser else 1
                parts[(lot, truth)] = product
    return parts


def free_books(number, many):
    random = seeded(number)
    for _ in range(many):
        form = random_form(random)
        yield free_book(random, form, closed_family(random, form), some_truths(random, form))


class Free(Case):
    def test_word_by_word(self):
        random = seeded(100)
        books = list(free_books(101, 25)) + [random_book(random, random_form(random), random.choice([1, 3, 8, None])) for _ in range(40)]
        for book in books:
            for name in names(book.form):
                expected = free_for(book.form, as_dict(book), name)
                self.assertIs(is_free(book, name), expected)
                self.assertIs(free_given_rest(book, ("a", name), ("b", name)), expected)
            self.assertTrue(same(own_blanks(book), plain_own_blanks(book)))
        self.assertIs(is_free(name="debts", book=book_with(FORM, {((), (0, 0)): 1})), True)
        self.assertEqual(own_blanks(book=book_with(FORM, {((), (0, 0)): 1})), ())

    def test_books_that_are_free(self):
        for book in free_books(102, 30):
            self.assertEqual(own_blanks(book), ())
            self.assertIs(is_grown(book), True)

    def test_one_share_turned_a_little(self):
        random = seeded(103)
        for _ in range(15):
            form = Form((("a", 2), ("b", random.choice([2, 3]))))
            book = free_book(random, form, subsets(["a", "b"]), every_truth(form))
            for lot, truth, share in book.shares:
                parts = {**as_dict(book), (lot, truth): frac(share) * Fraction(10 ** 9 + 1, 10 ** 9)}
                turned = book_with(form, parts)
                self.assertEqual(own_blanks(turned), plain_own_blanks(turned))
                self.assertEqual(own_blanks(turned), ("a", "b"))

    def test_shares_of_nought(self):
        told = {((), (0, 0)): 1, ((), (1, 0)): 1, (DEBTS, (0, 0)): 1}
        self.assertIs(is_free(book_with(FORM, told), "debts"), False)
        self.assertIs(is_free(book_with(FORM, told), "earns"), True)
        self.assertEqual(own_blanks(book_with(FORM, told)), ("debts",))
        self.assertEqual(own_blanks(book_with(FORM, {(DEBTS, (0, 0)): 1, (DEBTS, (1, 0)): 5})), ())
        self.assertEqual(own_blanks(book_with(FORM, {((), (0, 0)): 1, (DEBTS, (1, 0)): 5})), ("debts",))
        self.assertEqual(own_blanks(book_with(FORM, {((), (0, 0)): 1, (DEBTS, (1, 1)): 5})), ())

    def test_names_that_no_question_has(self):
        book = book_with(FORM, {((), (0, 0)): 1})
        for value in any_values():
            if value not in ("debts", "earns"):
                self.fails(NoName, value, is_free, book, value)
        self.fails(NoName, "other", is_free, name="other", book=book)

    def test_books_that_obey_a_chart_without_own_ways(self):
        random = seeded(104)
        tried = 0
        while tried < 30:
            chart = random_chart(random, random_form(random, 2, 3), random.randrange(5), random.randrange(3))
            book = book_made(random_maker(random, chart, nought=True))
            for name in names(chart.form):
                if name not in own_ways(chart):
                    tried += 1
                    self.assertIs(is_free(book, name), True)


class Grown(Case):
    def test_grown(self):
        random = seeded(105)
        for _ in range(60):
            book = random_book(random, random_form(random), random.choice([1, 2, 4, None]))
            self.assertIs(is_grown(book), plain_grown(book))
        for book in free_books(106, 20):
            self.assertIs(is_grown(book), True)
            for lot, truth, _ in book.shares:
                parts = as_dict(book)
                del parts[(lot, truth)]
                if parts:
                    less = book_with(book.form, parts)
                    self.assertIs(is_grown(less), plain_grown(less))
        told = [
            (True, [((), (0, 0))]), (True, [((), (0, 0)), (DEBTS, (0, 0))]), (False, [(DEBTS, (0, 0))]),
            (False, [((), (0, 0)), (DEBTS, (0, 1))]), (False, [((), (0, 0)), (PAIR, (0, 0))]),
            (False, [((), (0, 0)), (DEBTS, (0, 0)), (DEBTS, (0, 1))]), (True, [((), (0, 0)), (DEBTS, (0, 0)), (EARNS, (0, 0))]),
            (True, [(lot, (0, 0)) for lot in [(), DEBTS, EARNS, PAIR]]), (False, [(lot, (0, 0)) for lot in [(), DEBTS, PAIR]]),
        ]
        for expected, places in told:
            self.assertIs(is_grown(book=book_with(FORM, {place: 1 for place in places})), expected)


class OneBook(Case):
    def test_word_by_word(self):
        for one in grown_tables(107, 50):
            book = one_book(one)
            self.assertIsNone(need_book(book))
            self.assertTrue(same(book, book_with(one.form, plain_one_book(one))))
            self.assertEqual(sum(plain_one_book(one).values()), 1)

    def test_free_and_grown_with_just_these_sheets(self):
        for one in grown_tables(108, 50):
            book = one_book(sheets=one)
            self.assertEqual(plain_own_blanks(book), ())
            self.assertIs(plain_grown(book), True)
            self.assertTrue(same(plain_sheets(book), one))
            self.assertIs(check_book(one, book), True)
            come = {sheet for sheet, _ in one.shares}
            self.assertEqual({truth for _, truth, _ in book.shares}, {sheet for sheet in come if -1 not in sheet})

    def test_not_grown(self):
        for word, sheets in (("lots", [(-1, 0)]), ("rows", [(0, 0), (-1, 1)]), ("lots", [(0, 0), (-1, -1), (-1, 1)])):
            self.fails(Refused, word, one_book, table(FORM, sheets))
        random = seeded(109)
        for _ in range(60):
            one = random_sheets(random, random_form(random), random.choice([1, 3, 6]))
            if not_grown(one) is not None:
                self.fails(Refused, not_grown(one), one_book, one)

    def test_no_other_free_book_one_question(self):
        """All books with the same sheets and shares in some measure are tried."""
        form = Form((("a", 3),))
        for fulls in itertools.product((1, 2, 3), repeat=3):
            for blanks in (6, 12):
                one = sheets_with(form, {(0,): fulls[0], (1,): fulls[1], (2,): fulls[2], (-1,): blanks})
                found = []
                for low in range(blanks + 1):
                    for high in range(blanks + 1 - low):
                        parts = {((), (at,)): many for at, many in enumerate(fulls)}
                        parts.update({(("a",), (at,)): many for at, many in enumerate((low, high, blanks - low - high)) if many})
                        if not plain_own_blanks(book_with(form, parts)):
                            found.append(book_with(form, parts))
                expected = [one_book(one)] if all(blanks * many % sum(fulls) == 0 for many in fulls) else []
                self.assertEqual(found, expected)

    def test_no_other_free_book_two_questions(self):
        random = seeded(110)
        for _ in range(3):
            kept = {sheet: random.randrange(1, 3) for sheet in every_sheet(FORM) if -1 in sheet and sheet != (-1, -1)}
            parts = {((), truth): 2 for truth in every_truth(FORM)}
            # A free book in whole numbers: half of what stands behind a sheet with one blank has either answer.
            for sheet, many in kept.items():
                for truth in every_truth(FORM):
                    if blanked(FORM, lot_of(sheet), truth) == sheet:
                        parts[(lot_of(sheet), truth)] = many
            for truth in every_truth(FORM):
                parts[(PAIR, truth)] = kept[(-1, truth[1])] * kept[(truth[0], -1)]
            one = plain_sheets(book_with(FORM, parts))
            total = sum(parts[(PAIR, truth)] for truth in every_truth(FORM))
            found = [some for some in splits(parts, kept, total) if not unfree(some)]
            self.assertEqual([book_with(FORM, some) for some in found], [one_book(one)])

    def test_the_sheets_tell_the_whole_book(self):
        random = seeded(111)
        tried = 0
        while tried < 20:
            chart = random_chart(random, random_form(random, 2, 3), random.randrange(0, 4), random.randrange(0, 2))
            book = book_made(random_maker(random, chart))
            if not own_ways(chart) and len(sheets_of(book).shares) == len(every_sheet(chart.form)):
                tried += 1
                self.assertTrue(same(one_book(sheets_of(book)), book))
        for _ in range(20):
            form = random_form(random)
            book = free_book(random, form, subsets(names(form)), every_truth(form))
            self.assertTrue(same(one_book(sheets_of(book)), book))

    def test_with_an_own_way_it_is_another_book(self):
        parts = {((), (0,)): 1, ((), (1,)): 1, (DEBTS, (0,)): 1, (DEBTS, (1,)): 2}
        book = book_with(SOLE, parts)
        self.assertEqual(plain_sheets(one_book(sheets_of(book))), plain_sheets(book))
        self.assertNotEqual(one_book(sheets_of(book)), book)

    def test_the_greatest_form(self):
        form = Form((("a", 4), ("b", 4), ("c", 3), ("d", 2)))
        random = seeded(112)
        one = random_sheets(random, form)
        book = one_book(one)
        self.assertEqual(len(book.shares), 96 * 16)
        self.assertIs(check_book(one, book), True)


def lot_of(sheet):
    return tuple(name for name, answer in zip(names(FORM), sheet) if answer == -1)


def splits(parts, kept, total):
    """All numbers by lot and truth that come to the same sheets."""
    fulls = {place: many for place, many in parts.items() if place[0] == ()}
    sheets = list(kept)
    for halves in itertools.product(*[range(2 * kept[sheet] + 1) for sheet in sheets]):
        some = dict(fulls)
        for sheet, half in zip(sheets, halves):
            low, high = [truth for truth in every_truth(FORM) if blanked(FORM, lot_of(sheet), truth) == sheet]
            some[(lot_of(sheet), low)], some[(lot_of(sheet), high)] = half, 2 * kept[sheet] - half
        # The lots of one name alone have to be free already: each of them, beside the empty one.
        if any(half != kept[sheet] for sheet, half in zip(sheets, halves)):
            if not unfree(some):
                raise AssertionError("a second free book of lots of one name")
            continue
        for first in range(total + 1):
            for second in range(total + 1 - first):
                for third in range(total + 1 - first - second):
                    last = total - first - second - third
                    more = dict(zip([(PAIR, truth) for truth in every_truth(FORM)], (first, second, third, last)))
                    yield {place: many for place, many in {**some, **more}.items() if many}


def unfree(parts):
    return [name for name in names(FORM) if not free_for(FORM, parts, name)]


class WhatRestsOnIt(Case):
    def test_behind_and_stretch_are_those_of_the_one_book(self):
        """Point [42]: who sent a sheet, and how often full sheets count, as the one book tells it."""
        for one in grown_tables(119, 40):
            parts, shares = plain_one_book(one), {sheet: frac(share) for sheet, share in one.shares}
            for sheet in every_sheet(one.form):
                lot, expected = lot_on(one.form, sheet), []
                for truth in every_truth(one.form):
                    if sheet in shares and (lot, truth) in parts and blanked(one.form, lot, truth) == sheet:
                        expected.append((truth, pair_of(parts[(lot, truth)] / shares[sheet])))
                self.assertTrue(same(behind(one, sheet), tuple(expected)))
            told = dict(truth_shares(one_book(one)))
            for truth in every_truth(one.form):
                expected = frac(told[truth]) / shares[truth] if truth in told else Fraction(0)
                self.assertTrue(same(stretch(one, truth), pair_of(expected)))

    def test_weights_are_what_lots_take_beside_smaller_ones(self):
        """Point [37]: by the one book, a weight is the interplay of its lot, where every lot comes with every truth."""
        random = seeded(129)
        for _ in range(15):
            form = random_form(random, 2, 3)
            book = free_book(random, form, subsets(names(form)), every_truth(form))
            for lot, truth, _ in book.shares:
                if lot:
                    self.assertEqual(weight(sheets_of(book), blanked(form, lot, truth)), interplay(book, lot, truth))


class Checked(Case):
    def judged(self, one, value):
        """What `check_book` should tell of any value."""
        if type(value) is not Book or book_fault(value) is not None or not same(value.form, one.form):
            return False
        return plain_grown(value) and not plain_own_blanks(value) and same(plain_sheets(value), one)

    def test_other_books(self):
        random = seeded(113)
        for one in grown_tables(114, 12):
            right = one_book(one)
            self.assertIs(check_book(value=right, sheets=one), True)
            others = [random_book(random, one.form), random_book(random, one.form, 3), random_book(random, WIDE, 4)]
            places = as_dict(right)
            for _ in range(6):
                low, high = random.choice(list(places)), random.choice(list(places))
                small = min(places[low], places[high]) / 2
                others.append(book_with(one.form, {**places, low: places[low] - small, high: places[high] + small}))
            for book in others:
                self.assertIs(check_book(one, book), self.judged(one, book))

    def test_free_with_these_sheets_but_not_grown(self):
        book = book_with(FORM, {((), (0, 0)): 1, (DEBTS, (0, 1)): 2})
        self.assertEqual(plain_own_blanks(book), ())
        self.assertIs(check_book(sheets_of(book), book), False)

    def test_two_free_and_grown_books_with_one_table(self):
        """Where not every sheet comes, another free and grown book may have these sheets: it is taken, too."""
        pair = two_row_books(FORM, ((0, 0), (1, 1)), ((), DEBTS, PAIR, EARNS), PAIR)
        one = sheets_of(pair[0])
        self.assertNotEqual(pair[0], pair[1])
        for book in pair + (one_book(one),):
            self.assertIs(check_book(one, book), True)

    def test_same_sheets_but_not_free(self):
        book = book_with(SOLE, {((), (0,)): 1, ((), (1,)): 1, (DEBTS, (0,)): 1, (DEBTS, (1,)): 2})
        self.assertIs(check_book(sheets_of(book), book), False)

    def test_any_values(self):
        tables = [grown(SOLE, [(), DEBTS], every_truth(SOLE)), grown(FORM, [(), DEBTS], [(0, 0), (1, 1)]), table(FORM, [(-1, 0)])]
        for one in tables:
            values = any_values()
            if not_grown(one) is None:
                values = values + list(mutants(one_book(one)))
            for value in values:
                self.assertIs(check_book(one, value), self.judged(one, value), value)


class Interplay(Case):
    def test_word_by_word(self):
        random = seeded(115)
        for _ in range(40):
            book = random_book(random, random_form(random), random.choice([None, None, 20]))
            shares = as_dict(book)
            for lot in subsets(names(book.form)):
                for truth in every_truth(book.form):
                    product, noughts = Fraction(1), False
                    for lesser in subsets(lot):
                        share = shares.get((lesser, truth), Fraction(0))
                        noughts = noughts or share == 0
                        if share:
                            product *= share if (len(lot) - len(lesser)) % 2 == 0 else 1 / share
                    if noughts:
                        self.fails(InvalidSize, "nought", interplay, book, lot, truth)
                    else:
                        self.assertTrue(same(interplay(book, lot, truth), pair_of(product)))
        book = book_with(FORM, {((), (0, 0)): 1, (DEBTS, (0, 0)): 3})
        self.assertTrue(same(interplay(truth=(0, 0), lot=DEBTS, book=book), (3, 1)))
        self.fails(InvalidSize, "nought", interplay, book, (), (0, 1))
        self.fails(InvalidSize, "nought", interplay, book, EARNS, (0, 0))

    def alike(self, book):
        """Whether interplays are equal for truths that differ in answers to the lot's questions alone."""
        for lot in subsets(names(book.form)):
            found = {}
            for truth in every_truth(book.form):
                found.setdefault(blanked(book.form, lot, truth), set()).add(interplay(book, lot, truth))
            if lot and any(len(some) > 1 for some in found.values()):
                return False
        return True

    def test_free_exactly_if_interplays_are_equal(self):
        random = seeded(116)
        for _ in range(25):
            form = random_form(random, 2, 3)
            book = free_book(random, form, subsets(names(form)), every_truth(form))
            self.assertIs(self.alike(book), True)
            for sheet, weight in weights(sheets_of(book)):
                lot = tuple(name for name, answer in zip(names(form), sheet) if answer == -1)
                truth = tuple(max(answer, 0) for answer in sheet)
                self.assertTrue(same(interplay(book, lot, truth), weight))
            other = random_book(random, form)
            self.assertIs(self.alike(other), plain_own_blanks(other) == ())
            turned = book_with(form, {**as_dict(book), random.choice(list(as_dict(book))): Fraction(1, 7)})
            self.assertIs(self.alike(turned), plain_own_blanks(turned) == ())


class GrownBook(Case):
    def test_word_by_word_there_and_back(self):
        random = seeded(117)
        for _ in range(40):
            form = random_form(random)
            truths, lots = some_truths(random, form), closed_family(random, form)
            fulls = tuple((truth, pair_of(Fraction(random.randrange(1, 10 ** 6), random.randrange(1, 10 ** 6)))) for truth in truths)
            sheets = sorted({blanked(form, lot, truth) for lot in lots for truth in truths if lot})
            chosen = tuple((sheet, pair_of(Fraction(random.randrange(1, 10 ** 6), random.randrange(1, 10 ** 6)))) for sheet in sheets)
            known, parts = {sheet: frac(one) for sheet, one in chosen}, {}
            for lot in lots:
                for truth, one in fulls:
                    product = frac(one)
                    for lesser in subsets(lot):
                        product *= known[blanked(form, lesser, truth)] if lesser else 1
                    parts[(lot, truth)] = product
            book = grown_book(form, fulls, chosen)
            self.assertTrue(same(book, book_with(form, parts)))
            self.assertEqual((plain_own_blanks(book), is_grown(book)), ((), True))
            self.assertTrue(same(weights(sheets_of(book)), chosen))
            self.assertTrue(same(grown_book(weights=chosen, fulls=fulls, form=form), book))
            self.assertEqual(one_book(sheets_of(book)), book)

    def test_errors(self):
        one = (1, 1)
        told = [
            ("lots", [(0, 0)], [(-1, -1)]), ("lots", [(0, 0)], [(-1, -1), (-1, 0)]), ("lots", [(0, 0)], [(-1, -1), (-1, 1)]),
            ("rows", [(0, 0)], [(-1, 1)]), ("rows", [(0, 0), (0, 1)], [(-1, 0)]), ("rows", [(0, 0)], [(-1, 0), (-1, 1)]),
            ("rows", [(0, 0)], [(-1, 0), (1, -1)]), ("rows", [(0, 0), (1, 1)], [(-1, 0), (0, -1)]),
        ]
        for word, fulls, sheets in told:
            self.fails(Refused, word, grown_book, FORM, tuple((truth, one) for truth in fulls), tuple((sheet, one) for sheet in sheets))
        book = grown_book(FORM, (((0, 0), (3, 1)), ((1, 1), (1, 1))), ())
        self.assertEqual(book, book_with(FORM, {((), (0, 0)): 3, ((), (1, 1)): 1}))

    def test_books_that_are_their_own_full_shares_and_weights(self):
        """Exactly those are where rows lead from each truth to each other one within a lot."""
        told = [(((0, 0), (1, 1)), False), (((0, 0), (0, 1), (1, 1)), True), (tuple(every_truth(FORM)), True)]
        family = ((), DEBTS, PAIR, EARNS)
        random = seeded(118)
        for rows, whole in told:
            books = [free_book(random, FORM, family, rows)]
            if not whole:
                books = list(two_row_books(FORM, rows, family, PAIR))
            for book in books:
                came = sheets_of(book)
                fulls = tuple((sheet, share) for sheet, share in came.shares if -1 not in sheet)
                self.assertIs(grown_book(FORM, fulls, weights(came)) == book, whole)


if __name__ == "__main__":
    unittest.main()
