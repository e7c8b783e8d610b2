"""Points [77] to [79]: bounds of answers."""

import itertools
import unittest
from fractions import Fraction

from checks import Case
from helpers import (
    FORM, any_values, book_with, frac, lot_on, mutants, pair_of, plain_answer_by, plain_sheets, random_ask, random_book, random_sheets, same,
    seeded, sheets_with,
)
from test_books import fault as book_fault
from test_choices import BACK, OWES, all_choices, answer_of, asked, behind, plain_options, plain_pick
from test_fractions import fault as fraction_fault
from test_weights import grown_tables
from whyblank.asks import Ask, answer_by
from whyblank.books import Book
from whyblank.bounds import Bounds, book_at, bounds, check_bounds, is_certain, share_bounds
from whyblank.choices import book_of_picks, open_sheets
from whyblank.errors import Refused
from whyblank.forms import Form
from whyblank.onebook import one_book
from whyblank.sheets import Sheets, sheets_of

NOBODY = Ask(("number", 1), ("not", ("all",)))


def worths_of(one, ask):
    return sorted({option for _, some in plain_options(one, ask) for option in some if option is not None})


def plain_picks(one, ask, side, cut):
    return tuple((sheet, plain_pick(some, side, cut)) for sheet, some in plain_options(one, ask))


def plain_bounds(one, ask):
    """The bounds by trying all choices, None if nobody is asked whatever is chosen."""
    answers = [answer_of(one, some) for some in all_choices(one, ask)]
    answers = [answer for answer in answers if answer is not None]
    return (min(answers), max(answers)) if answers else None


def small(number, many):
    """Tables and asks of which all choices can be tried."""
    for random, one, ask in asked(number, many, 7):
        choices = 1
        for _, some in plain_options(one, ask):
            choices *= len(some)
        if choices < 3000:
            yield random, one, ask


class OfAsks(Case):
    def test_by_trying_all_choices(self):
        told = nobody = 0
        for _, one, ask in small(230, 150):
            expected = plain_bounds(one, ask)
            if expected is None:
                nobody += 1
                self.fails(Refused, "nobody", bounds, one, ask)
                continue
            told += 1
            found = bounds(one, ask)
            self.assertTrue(same((found.least, found.most), (pair_of(expected[0]), pair_of(expected[1]))))
            cuts = worths_of(one, ask)
            low = [plain_picks(one, ask, -1, cut) for cut in cuts if answer_of(one, plain_picks(one, ask, -1, cut)) == expected[0]]
            high = [plain_picks(one, ask, 1, cut) for cut in cuts if answer_of(one, plain_picks(one, ask, 1, cut)) == expected[1]]
            self.assertTrue(same(found.low, book_of_picks(one, ask, low[0])))
            self.assertTrue(same(found.high, book_of_picks(one, ask, high[-1])))
            for book, answer in ((found.low, found.least), (found.high, found.most)):
                self.assertIsNone(book_fault(book))
                self.assertTrue(same(plain_sheets(book), one))
                self.assertTrue(same(answer_by(book, ask), answer))
            self.assertIs(check_bounds(one, ask, found), True)
        self.assertGreater(told, 80)
        self.assertGreater(nobody, 5)
        found = bounds(ask=OWES, sheets=BACK)
        self.assertEqual((found.least, found.most), ((1, 5), (4, 5)))

    def test_many_worths(self):
        """Sheets of each worth that may be asked or not: the best cut may be any of them."""
        random = seeded(244)
        form = Form((("a", 4), ("b", 2)))
        ends = set()
        for _ in range(150):
            sheets = random.sample([(answer, last) for answer in range(4) for last in (-1, 1)] + [(-1, 1), (-1, -1)], random.randrange(2, 8))
            one = sheets_with(form, {sheet: random.choice([1, 1, 2, 3, 9]) for sheet in sheets})
            factor = random.choice([1, -1, -3, 5])
            ask = Ask(("plus", ("times", ("answer", "a"), ("number", factor)), ("number", random.randrange(-4, 3))), ("is", "b", 1))
            least, most = plain_bounds(one, ask)
            found, cuts = bounds(one, ask), worths_of(one, ask)
            self.assertTrue(same((found.least, found.most), (pair_of(least), pair_of(most))))
            low = [cut for cut in cuts if answer_of(one, plain_picks(one, ask, -1, cut)) == least]
            high = [cut for cut in cuts if answer_of(one, plain_picks(one, ask, 1, cut)) == most]
            self.assertTrue(same(found.low, book_of_picks(one, ask, plain_picks(one, ask, -1, low[0]))))
            self.assertTrue(same(found.high, book_of_picks(one, ask, plain_picks(one, ask, 1, high[-1]))))
            ends.add((cuts.index(low[0]), len(cuts) - cuts.index(high[-1])))
        self.assertGreater(len(ends), 5)

    def test_the_least_and_the_greatest_cut_of_several(self):
        """A sheet that may be asked and has the answer itself as worth: the outermost cut leaves it out."""
        form = Form((("a", 3), ("b", 2)))
        one = sheets_with(form, {(0, 1): 1, (2, 1): 1, (1, -1): 5})
        for factor in (1, -1, -2, 3):
            ask = Ask(("times", ("answer", "a"), ("number", factor)), ("is", "b", 1))
            found = bounds(one, ask)
            self.assertEqual((found.least, found.most), ((factor, 1), (factor, 1)))
            expected = book_with(form, {((), (0, 1)): 1, ((), (2, 1)): 1, (("b",), (1, 0)): 5})
            self.assertTrue(same((found.low, found.high), (expected, expected)))

    def test_no_book_answers_beyond(self):
        for random, one, ask in small(231, 120):
            if plain_bounds(one, ask) is None:
                continue
            found = bounds(one, ask)
            for _ in range(6):
                parts = {}
                for sheet, share in one.shares:
                    for truth in random.choices(behind(one.form, sheet), k=4):
                        place = (lot_on(one.form, sheet), truth)
                        parts[place] = parts.get(place, 0) + frac(share) / 4
                answer = plain_answer_by(book_with(one.form, parts), ask)
                if answer is not None:
                    self.assertTrue(frac(found.least) <= answer <= frac(found.most))

    def test_one_book_answers_between(self):
        random = seeded(232)
        for one in grown_tables(233, 40):
            ask = random_ask(random, one.form, 3)
            answer = plain_answer_by(one_book(one), ask)
            if answer is not None:
                found = bounds(one, ask)
                self.assertTrue(frac(found.least) <= answer <= frac(found.most))

    def test_classes(self):
        found = bounds(BACK, OWES)
        self.assertTrue(found == Bounds(high=found.high, low=found.low, most=found.most, least=found.least))
        for name in ("least", "most", "low", "high"):
            self.assertFalse(found == Bounds(**{**vars(found), name: None}))
        for value in any_values():
            self.assertFalse(found == value)
            self.assertTrue(same(Bounds(value, 1, [value], 3).low, [value]))

    def test_great_tables(self):
        form = Form((("a", 3), ("b", 3), ("c", 3)))
        one = random_sheets(seeded(234), form)
        worth = ("plus", ("times", ("answer", "a"), ("number", 10 ** 5)), ("plus", ("times", ("answer", "b"), ("number", -300)), ("answer", "c")))
        worth = ("plus", worth, ("times", ("number", 7), ("if", ("blank", "a"))))
        for test in (("all",), ("either", ("is", "a", 1), ("is", "b", 2)), ("not", ("both", ("is", "c", 0), ("blank", "b")))):
            ask = Ask(worth, test)
            found = bounds(one, ask)
            self.assertIs(check_bounds(one, ask, found), True)
            middle = pair_of((frac(found.least) + frac(found.most)) / 2)
            self.assertEqual(answer_by(book_at(one, ask, middle), ask), middle)


def plain_share_bounds(one, ask):
    told = {sheet: some for sheet, some in plain_options(one, ask)}
    shares = {sheet: frac(share) for sheet, share in one.shares}
    only_one = sum(shares[sheet] for sheet in told if told[sheet] == (1,))
    only_nought = sum(shares[sheet] for sheet in told if told[sheet] == (0,))
    may_one = sum(shares[sheet] for sheet in told if 1 in told[sheet])
    may_nought = sum(shares[sheet] for sheet in told if 0 in told[sheet])
    least = Fraction(only_one) / (only_one + may_nought) if only_one + may_nought else Fraction(1)
    most = Fraction(may_one) / (may_one + only_nought) if may_one + only_nought else Fraction(0)
    return (pair_of(least), pair_of(most))


class OfShares(Case):
    def test_by_counting_and_by_bounds(self):
        random = seeded(235)
        told = 0
        for _, one, ask in asked(236, 200):
            ask = Ask(random.choice([("if", ask.given), ("if", ("is", one.form.questions[0][0], 0))]), random_ask(random, one.form, 2).given)
            if not worths_of(one, ask):
                self.fails(Refused, "nobody", share_bounds, one, ask)
                continue
            told += 1
            found = share_bounds(one, ask)
            self.assertTrue(same(found, plain_share_bounds(one, ask)))
            self.assertTrue(same(found, (bounds(one, ask).least, bounds(one, ask).most)))
        self.assertGreater(told, 80)
        self.assertEqual(share_bounds(ask=OWES, sheets=BACK), ((1, 5), (4, 5)))

    def test_noughts_below(self):
        one = sheets_with(FORM, {(-1, 0): 1, (-1, 1): 1})
        self.assertEqual(share_bounds(one, Ask(("number", 1), ("is", "debts", 0))), ((1, 1), (1, 1)))
        self.assertEqual(share_bounds(one, Ask(("number", 0), ("is", "debts", 0))), ((0, 1), (0, 1)))

    def test_errors_in_their_order(self):
        for worth in (("number", 2), ("number", -1), ("plus", ("answer", "debts"), ("answer", "earns")), ("times", ("number", 10), ("answer", "debts"))):
            self.fails(Refused, "worth", share_bounds, BACK, Ask(worth, ("all",)))
            self.fails(Refused, "nobody", share_bounds, BACK, Ask(worth, ("not", ("all",))))
        # A worth that no option is does no harm.
        self.assertEqual(share_bounds(BACK, Ask(("plus", ("answer", "debts"), ("answer", "earns")), ("is", "earns", 0))), ((0, 1), (0, 1)))
        self.fails(Refused, "nobody", share_bounds, BACK, NOBODY)


class Between(Case):
    def test_books_at_answers(self):
        for random, one, ask in small(237, 100):
            if plain_bounds(one, ask) is None:
                self.fails(Refused, "nobody", book_at, one, ask, (0, 1))
                self.fails(Refused, "nobody", is_certain, one, ask)
                continue
            least, most = plain_bounds(one, ask)
            for level in (Fraction(0), Fraction(1), Fraction(1, 2), Fraction(random.randrange(1, 10 ** 9), 10 ** 9)):
                answer = pair_of(least + (most - least) * level)
                book = book_at(one, ask, answer)
                self.assertIsNone(book_fault(book))
                self.assertTrue(same(plain_sheets(book), one))
                self.assertTrue(same(answer_by(book, ask), answer))
            for beyond in (Fraction(1, 10 ** 30), Fraction(5)):
                self.fails(Refused, "bounds", book_at, one, ask, pair_of(least - beyond))
                self.fails(Refused, "bounds", book_at, one, ask, pair_of(most + beyond))
            self.assertIs(is_certain(one, ask), least == most)
        self.assertEqual(answer_by(book_at(answer=(1, 2), ask=OWES, sheets=BACK), OWES), (1, 2))
        self.assertIs(is_certain(ask=OWES, sheets=BACK), False)

    def test_asks_that_are_certain(self):
        """They are exactly if each worth among the options of the open sheets is the least answer."""
        certain = 0
        for _, one, ask in small(238, 250):
            if plain_bounds(one, ask) is None:
                continue
            least = plain_bounds(one, ask)[0]
            told = dict(plain_options(one, ask))
            worths = {option for sheet in open_sheets(one, ask) for option in told[sheet] if option is not None}
            expected = all(worth == least for worth in worths)
            certain += expected and bool(worths)
            self.assertIs(is_certain(one, ask), expected)
        self.assertGreater(certain, 5)


class Checked(Case):
    def judged(self, one, ask, value):
        """What `check_bounds` should tell of any value."""
        if type(value) is not Bounds or fraction_fault(value.least) is not None or fraction_fault(value.most) is not None:
            return False
        for book, answer in ((value.low, value.least), (value.high, value.most)):
            if type(book) is not Book or book_fault(book) is not None or not same(book.form, one.form):
                return False
            if not same(plain_sheets(book), one) or plain_answer_by(book, ask) != frac(answer):
                return False
        for side, level in ((min, frac(value.least)), (max, frac(value.most))):
            total = Fraction(0)
            for (_, some), (_, share) in zip(plain_options(one, ask), one.shares):
                total += frac(share) * side(0 if option is None else option - level for option in some)
            if (total < 0 and side is min) or (total > 0 and side is max):
                return False
        return True

    def test_other_books_and_answers(self):
        for random, one, ask in small(239, 60):
            expected = plain_bounds(one, ask)
            if expected is None:
                for book in (random_book(random, one.form), random_book(random, one.form, 2)):
                    self.assertIs(check_bounds(one, ask, Bounds((0, 1), (0, 1), book, book)), False)
                continue
            right = bounds(one, ask)
            self.assertIs(self.judged(one, ask, right), True)
            middle = pair_of((expected[0] + expected[1]) / 2)
            between = book_at(one, ask, middle)
            for value in (
                Bounds(right.most, right.least, right.high, right.low), Bounds(middle, right.most, between, right.high),
                Bounds(right.least, middle, right.low, between), Bounds(right.least, right.most, between, right.high),
                Bounds(right.least, right.most, right.low, between), Bounds(middle, right.most, right.low, right.high),
                Bounds(right.least, right.most, random_book(random, one.form), right.high),
            ):
                self.assertIs(check_bounds(one, ask, value), self.judged(one, ask, value))
        found = bounds(BACK, OWES)
        self.assertIs(check_bounds(value=found, ask=OWES, sheets=BACK), True)

    def test_other_books_with_the_same_answers(self):
        one = sheets_with(FORM, {(-1, -1): 1, (0, 0): 1})
        ask = Ask(("answer", "debts"), ("all",))
        right = bounds(one, ask)
        other = book_with(FORM, {((), (0, 0)): 1, (("debts", "earns"), (1, 1)): 1})
        self.assertNotEqual(other, right.high)
        self.assertIs(check_bounds(one, ask, Bounds(right.least, right.most, right.low, other)), True)

    def test_books_in_which_nobody_is_asked(self):
        sole = Form((("debts", 2),))
        one = sheets_with(sole, {(-1,): 1})
        ask = Ask(("answer", "debts"), ("is", "debts", 0))
        low, nobody = book_with(sole, {(("debts",), (0,)): 1}), book_with(sole, {(("debts",), (1,)): 1})
        self.assertIs(check_bounds(one, ask, Bounds((0, 1), (0, 1), low, low)), True)
        for books in ((low, nobody), (nobody, low), (nobody, nobody)):
            self.assertIs(check_bounds(one, ask, Bounds((0, 1), (0, 1), *books)), False)

    def test_any_values(self):
        sole = Form((("debts", 2),))
        cases = [
            (Sheets(sole, (((-1,), (1, 2)), ((0,), (1, 2)))), Ask(("answer", "debts"), ("all",))),
            (sheets_with(sole, {(0,): 1}), Ask(("number", 1), ("is", "debts", 0))), (sheets_with(sole, {(0,): 1}), NOBODY),
        ]
        for one, ask in cases:
            values = any_values()
            if ask is not NOBODY:
                values = values + list(mutants(bounds(one, ask)))
            for value in values:
                self.assertIs(check_bounds(one, ask, value), self.judged(one, ask, value), value)
            for value, name in itertools.product(any_values(), ("least", "most", "low", "high")):
                kept = vars(bounds(one, ask)) if ask is not NOBODY else vars(Bounds((1, 1), (1, 1), None, None))
                other = Bounds(**{**kept, name: value})
                self.assertIs(check_bounds(one, ask, other), self.judged(one, ask, other))

    def test_sheets_of_the_books(self):
        found = bounds(BACK, OWES)
        self.assertEqual((sheets_of(found.low), sheets_of(found.high)), (BACK, BACK))


if __name__ == "__main__":
    unittest.main()
