"""Points [35], [37], [38] and [42]: weights."""

import itertools
import unittest
from fractions import Fraction

from checks import Case
from helpers import (
    FORM, HUGE, WIDE, any_values, blanked, deep, every_sheet, every_truth, frac, mutants, names, pair_of, random_chart, random_form,
    random_maker, random_sheets, same, seeded, subsets,
)
from test_fractions import fault as fraction_fault
from whyblank.errors import Refused
from whyblank.forms import Form
from whyblank.makers import book_made, is_sure
from whyblank.sheets import Sheets, sheets_of
from whyblank.weights import (
    behind, check_weights, is_every, lots_that_come, stretch, truths_that_come, weight, weights, why_not_grown,
)
from whyblank.ways import own_ways

DEBTS, EARNS, PAIR = ("debts",), ("earns",), ("debts", "earns")


def table(form, sheets):
    """A table in which these sheets come, with unlike shares."""
    some = sorted(set(sheets))
    parts = [at + 1 for at in range(len(some))]
    return Sheets(form, tuple((sheet, pair_of(Fraction(part, sum(parts)))) for sheet, part in zip(some, parts)))


def grown(form, lots, truths):
    return table(form, [blanked(form, lot, truth) for lot in lots for truth in truths])


def lot_of(form, sheet):
    return tuple(name for name, answer in zip(names(form), sheet) if answer == -1)


def not_grown(one):
    """The word that tells why a table is not grown, told apart from the package."""
    come = [sheet for sheet, _ in one.shares]
    lots = {lot_of(one.form, sheet) for sheet in come}
    truths = [sheet for sheet in come if -1 not in sheet]
    if any(lesser not in lots for lot in lots for lesser in subsets(lot)):
        return "lots"
    for lot in lots:
        if {sheet for sheet in come if lot_of(one.form, sheet) == lot} != {blanked(one.form, lot, truth) for truth in truths}:
            return "rows"
    return None


def plain_weight(one, sheet):
    """The weight of a sheet, word by word, told apart from the package."""
    shares = {key: frac(share) for key, share in one.shares}
    if sheet not in shares:
        return Fraction(0)
    if -1 not in sheet:
        return Fraction(1)
    lot, total = lot_of(one.form, sheet), Fraction(0)
    for truth in shares:
        if -1 not in truth and blanked(one.form, lot, truth) == sheet:
            term = shares[truth]
            for lesser in subsets(lot):
                if lesser not in ((), lot):
                    term *= plain_weight(one, blanked(one.form, lesser, truth))
            total += term
    return shares[sheet] / total


def grown_tables(number, many):
    """Random grown tables, with some truths and a closed family of lots."""
    random = seeded(number)
    for _ in range(many):
        form = random_form(random, 3, 3)
        truths = random.sample(every_truth(form), random.randrange(1, len(every_truth(form)) + 1))
        tops = random.choices(subsets(names(form)), k=random.randrange(1, 4))
        lots = {lesser for lot in tops for lesser in subsets(lot)}
        found = sorted({blanked(form, lot, truth) for lot in lots for truth in truths})
        parts = [random.randrange(1, 30) for _ in found]
        yield Sheets(form, tuple((sheet, pair_of(Fraction(part, sum(parts)))) for sheet, part in zip(found, parts)))


class Coming(Case):
    def test_lots_and_truths_that_come(self):
        random = seeded(70)
        for _ in range(60):
            one = random_sheets(random, random_form(random), random.choice([1, 3, 9, None]))
            come = [sheet for sheet, _ in one.shares]
            self.assertTrue(same(lots_that_come(one), tuple(sorted({lot_of(one.form, sheet) for sheet in come}))))
            self.assertTrue(same(truths_that_come(one), tuple(sheet for sheet in come if -1 not in sheet)))
            self.assertIs(is_every(one), sorted(come) == every_sheet(one.form))
            self.assertEqual(why_not_grown(one), not_grown(one))
        one = table(FORM, [(-1, 0), (0, 1)])
        self.assertEqual(lots_that_come(sheets=one), ((), DEBTS))
        self.assertEqual(truths_that_come(sheets=one), ((0, 1),))
        self.assertIs(is_every(sheets=one), False)

    def test_every_sheet(self):
        for form in (FORM, WIDE, Form((("a", 2),))):
            one = table(form, every_sheet(form))
            self.assertIs(is_every(one), True)
            self.assertIsNone(why_not_grown(one))
            for sheet in every_sheet(form):
                less = table(form, [other for other in every_sheet(form) if other != sheet])
                self.assertIs(is_every(less), False)
                self.assertEqual(why_not_grown(less), not_grown(less))

    def test_why_not_grown(self):
        told = [
            ("lots", [(-1, -1)]), ("lots", [(-1, 0)]), ("lots", [(0, 0), (-1, -1)]), ("lots", [(0, 0), (-1, -1), (-1, 0)]),
            ("lots", [(0, 0), (-1, -1), (-1, 1)]), ("rows", [(0, 0), (-1, 1)]), ("rows", [(0, 0), (-1, 0), (-1, 1)]),
            ("rows", [(0, 0), (0, 1), (-1, 0)]), ("rows", [(0, 0), (0, 1), (-1, -1), (-1, 0), (-1, 1), (1, -1)]), (None, [(0, 0)]),
            (None, [(0, 0), (-1, 0)]), (None, [(0, 0), (1, 1)]), (None, [(0, 0), (-1, -1), (-1, 0), (0, -1)]),
            (None, [(0, 0), (0, 1), (0, -1)]),
        ]
        for word, sheets in told:
            self.assertEqual(why_not_grown(table(FORM, sheets)), word)
            self.assertEqual(not_grown(table(FORM, sheets)), word)
        self.assertEqual(why_not_grown(sheets=table(FORM, [(-1, 0)])), "lots")

    def test_all_small_tables(self):
        for many in (1, 2, 3, 9):
            for some in itertools.combinations(every_sheet(FORM), many):
                one = table(FORM, some)
                self.assertEqual(why_not_grown(one), not_grown(one))

    def test_grown_tables(self):
        for one in grown_tables(71, 40):
            self.assertIsNone(why_not_grown(one))


class Weights(Case):
    def test_weights(self):
        for one in grown_tables(72, 50):
            expected = []
            for sheet in every_sheet(one.form):
                found = pair_of(plain_weight(one, sheet))
                self.assertTrue(same(weight(one, sheet), found))
                if -1 in sheet and found != (0, 1):
                    expected.append((sheet, found))
            self.assertTrue(same(weights(one), tuple(expected)))
        one = grown(FORM, [(), DEBTS], [(0, 0)])
        self.assertEqual(weight(sheet=(-1, 0), sheets=one), weights(sheets=one)[0][1])

    def test_sheets_that_do_not_come(self):
        one = grown(FORM, [(), DEBTS], [(0, 0), (1, 0)])
        for sheet in [(0, 1), (1, 1), (-1, 1), (0, -1), (-1, -1)]:
            self.assertTrue(same(weight(one, sheet), (0, 1)))
        self.assertTrue(same(weight(one, (1, 0)), (1, 1)))
        self.assertEqual([sheet for sheet, _ in weights(one)], [(-1, 0)])
        self.assertEqual(weights(grown(FORM, [()], [(0, 0)])), ())

    def test_not_grown(self):
        for word, sheets in (("lots", [(-1, 0)]), ("rows", [(0, 0), (-1, 1)]), ("lots", [(0, 0), (-1, -1), (-1, 1)])):
            one = table(FORM, sheets)
            for sheet in every_sheet(FORM):
                self.fails(Refused, word, weight, one, sheet)
                self.fails(Refused, word, behind, one, sheet)
            self.fails(Refused, word, weights, one)
            for truth in every_truth(FORM):
                self.fails(Refused, word, stretch, one, truth)

    def test_four_questions(self):
        form = Form((("a", 4), ("b", 4), ("c", 3), ("d", 2)))
        random = seeded(73)
        one = random_sheets(random, form)
        found = weights(one)
        self.assertEqual(len(found), 5 * 5 * 4 * 3 - 96)
        self.assertIs(check_weights(one, found), True)
        self.assertEqual(sum(frac(share) for _, share in behind(one, (-1, -1, -1, -1))), 1)


def tells_weights(one, value):
    """Whether any value is what `check_weights` should take, told apart from the package."""
    if not_grown(one) is not None or type(value) is not tuple:
        return False
    expected = [sheet for sheet, _ in one.shares if -1 in sheet]
    if len(value) != len(expected):
        return False
    for pair, sheet in zip(value, expected):
        if type(pair) is not tuple or len(pair) != 2 or not same(pair[0], sheet) or fraction_fault(pair[1]) is not None:
            return False
        if frac(pair[1]) <= 0 or frac(pair[1]) != plain_weight(one, sheet):
            return False
    return True


class Checked(Case):
    def test_weights_are_right(self):
        for one in grown_tables(74, 40):
            self.assertIs(check_weights(one, weights(one)), True)
            self.assertIs(check_weights(value=weights(one), sheets=one), True)

    def test_other_values_are_wrong(self):
        one = grown(FORM, [(), DEBTS, EARNS, PAIR], every_truth(FORM))
        right = weights(one)
        for at, (sheet, share) in enumerate(right):
            for other in [(0, 1), (-share[0], share[1]), pair_of(frac(share) * 2), [*share], (2 * share[0], 2 * share[1]), None, 1, (True, 1)]:
                value = right[:at] + ((sheet, other),) + right[at + 1:]
                self.assertIs(check_weights(one, value), False)
            for other in (list(sheet), tuple(map(str, sheet)), sheet + (0,), sheet[1:], None):
                value = right[:at] + ((other, share),) + right[at + 1:]
                self.assertIs(check_weights(one, value), False)
            self.assertIs(check_weights(one, right[:at] + right[at + 1:]), False)
            self.assertIs(check_weights(one, right[:at + 1] + right[at:]), False)
            self.assertIs(check_weights(one, right[:at] + ([sheet, share],) + right[at + 1:]), False)
        self.assertIs(check_weights(one, list(right)), False)
        self.assertIs(check_weights(one, right[::-1]), False)

    def test_bools_are_no_answers(self):
        one = grown(FORM, [(), DEBTS], [(0, 1), (0, 0), (1, 1), (1, 0)])
        right = weights(one)
        self.assertEqual([sheet for sheet, _ in right], [(-1, 0), (-1, 1)])
        self.assertIs(check_weights(one, ((((-1, False)), right[0][1]), right[1])), False)
        self.assertIs(check_weights(one, (right[0], ((-1, True), right[1][1]))), False)

    def test_not_grown(self):
        self.assertIs(check_weights(table(FORM, [(0, 0), (-1, 1)]), (((-1, 1), (1, 1)),)), False)
        self.assertIs(check_weights(table(FORM, [(-1, 1)]), ()), False)
        self.assertIs(check_weights(table(FORM, [(0, 1)]), ()), True)

    def test_any_values(self):
        tables = [grown(FORM, [(), DEBTS, EARNS, PAIR], [(0, 0), (1, 1)]), table(FORM, [(0, 1)]), table(FORM, [(-1, 0)])]
        tables.append(Sheets(Form((("debts", 2),)), (((-1,), (1, 2)), ((0,), (1, 4)), ((1,), (1, 4)))))
        for one in tables:
            right = weights(one) if not_grown(one) is None else (((-1, 0), (1, 1)),)
            for value in any_values() + list(mutants(right)) + [deep(right), HUGE]:
                self.assertIs(check_weights(one, value), tells_weights(one, value), value)


class Behind(Case):
    def test_behind(self):
        for one in grown_tables(75, 40):
            shares = {sheet: frac(share) for sheet, share in one.shares}
            for sheet in every_sheet(one.form):
                if sheet not in shares:
                    self.assertEqual(behind(one, sheet), ())
                    continue
                expected = []
                lot = lot_of(one.form, sheet)
                for truth in every_truth(one.form):
                    if truth in shares and blanked(one.form, lot, truth) == sheet:
                        term = shares[truth]
                        for lesser in subsets(lot):
                            term *= plain_weight(one, blanked(one.form, lesser, truth)) if lesser else 1
                        expected.append((truth, pair_of(term / shares[sheet])))
                self.assertTrue(same(behind(one, sheet), tuple(expected)))
                self.assertEqual(sum(frac(share) for _, share in expected), 1)
        one = grown(FORM, [(), DEBTS], [(0, 0)])
        self.assertEqual(behind(sheet=(0, 0), sheets=one), (((0, 0), (1, 1)),))

    def test_stretch(self):
        for one in grown_tables(76, 40):
            shares = {sheet: frac(share) for sheet, share in one.shares}
            lots = {lot_of(one.form, sheet) for sheet in shares}
            total = Fraction(0)
            for truth in every_truth(one.form):
                expected = Fraction(0)
                if truth in shares:
                    for lot in lots:
                        product = Fraction(1)
                        for lesser in subsets(lot):
                            product *= plain_weight(one, blanked(one.form, lesser, truth)) if lesser else 1
                        expected += product
                self.assertTrue(same(stretch(one, truth), pair_of(expected)))
                total += expected * shares.get(truth, 0)
            self.assertEqual(total, 1)
        one = grown(FORM, [(), DEBTS], [(0, 0)])
        self.assertTrue(same(stretch(truth=(1, 1), sheets=one), (0, 1)))
        self.assertTrue(same(stretch(grown(FORM, [()], [(0, 0), (1, 0)]), (1, 0)), (1, 1)))

    def test_truths_by_a_book_without_own_ways(self):
        """Where no question has an own way, full sheets times their stretch are the truths of the book."""
        random = seeded(77)
        tried = 0
        while tried < 15:
            chart = random_chart(random, random_form(random, 2, 3), random.randrange(0, 4), random.randrange(0, 2))
            maker = random_maker(random, chart)
            if own_ways(chart) or not is_sure(maker):
                continue
            book = book_made(maker)
            came = sheets_of(book)
            if not is_every(came):
                continue
            tried += 1
            shares = {sheet: frac(share) for sheet, share in came.shares}
            for truth in every_truth(chart.form):
                expected = sum(frac(share) for _, one, share in book.shares if one == truth)
                self.assertEqual(frac(stretch(came, truth)) * shares[truth], expected)


if __name__ == "__main__":
    unittest.main()
