"""Points [75] and [76]: options of sheets, and picks."""

import itertools
import unittest
from fractions import Fraction

from checks import Case
from helpers import (
    FORM, as_dict, book_with, every_truth, frac, lot_on, pair_of, plain_answer_by, plain_sheets, plain_test, plain_worth, random_ask,
    random_form, random_sheets, same, seeded, sheets_with,
)
from whyblank.asks import Ask, answer_by
from whyblank.books import need_book
from whyblank.choices import book_of_picks, open_sheets, options, picks
from whyblank.forms import Form

BACK = sheets_with(FORM, {(0, 0): 3, (0, 1): 1, (1, 1): 1, (-1, 1): 3})
OWES = Ask(("answer", "debts"), ("is", "earns", 1))


def behind(form, sheet):
    return [truth for truth in every_truth(form) if all(one in (-1, other) for one, other in zip(sheet, truth))]


def told_of(form, ask, sheet, truth):
    lot = lot_on(form, sheet)
    return plain_worth(form, ask.worth, lot, truth) if plain_test(form, ask.given, lot, truth) else None


def plain_options(one, ask):
    found = []
    for sheet, _ in one.shares:
        told = {told_of(one.form, ask, sheet, truth) for truth in behind(one.form, sheet)}
        found.append((sheet, tuple(sorted(told, key=lambda option: (option is not None, option or 0)))))
    return tuple(found)


def all_choices(one, ask):
    """All tuples of pairs of each sheet and one of its options."""
    told = plain_options(one, ask)
    for some in itertools.product(*[choices for _, choices in told]):
        yield tuple((sheet, option) for (sheet, _), option in zip(told, some))


def answer_of(one, some):
    """The answer of some picks by plain sums, None if nobody is picked with a worth."""
    shares = {sheet: frac(share) for sheet, share in one.shares}
    worths = [(shares[sheet], option) for sheet, option in some if option is not None]
    total = sum(share for share, _ in worths)
    return sum(share * option for share, option in worths) / Fraction(total) if total else None


def asked(number, many, most=None):
    random = seeded(number)
    for _ in range(many):
        form = random_form(random, 2, 3)
        yield random, random_sheets(random, form, random.choice([1, 3, 5, most])), random_ask(random, form, 3)


class Options(Case):
    def test_options(self):
        for _, one, ask in asked(220, 120):
            self.assertTrue(same(options(one, ask), plain_options(one, ask)))
            self.assertTrue(same(open_sheets(one, ask), tuple(sheet for sheet, some in plain_options(one, ask) if len(some) > 1)))
        self.assertEqual(options(ask=OWES, sheets=BACK), (((-1, 1), (0, 1)), ((0, 0), (None,)), ((0, 1), (0,)), ((1, 1), (1,))))
        self.assertEqual(open_sheets(ask=OWES, sheets=BACK), ((-1, 1),))

    def test_none_first_and_nought_apart(self):
        one = sheets_with(FORM, {(-1, -1): 1})
        self.assertTrue(same(options(one, OWES), (((-1, -1), (None, 0, 1)),)))
        ask = Ask(("plus", ("number", -1), ("answer", "debts")), ("is", "earns", 0))
        self.assertTrue(same(options(one, ask), (((-1, -1), (None, -1, 0)),)))
        ask = Ask(("if", ("blank", "debts")), ("blank", "earns"))
        self.assertTrue(same(options(one, ask), (((-1, -1), (1,)),)))
        self.assertTrue(same(options(one, Ask(("number", 0), ("not", ("all",)))), (((-1, -1), (None,)),)))

    def test_no_open_sheets_no_other_answers(self):
        random, tried = seeded(221), 0
        for _, one, ask in asked(222, 300):
            if open_sheets(one, ask):
                continue
            tried += 1
            told = set()
            for _ in range(5):
                parts = {}
                for sheet, share in one.shares:
                    chosen = random.choices(behind(one.form, sheet), k=3)
                    for truth in chosen:
                        place = (lot_on(one.form, sheet), truth)
                        parts[place] = parts.get(place, 0) + frac(share) / 3
                told.add(plain_answer_by(book_with(one.form, parts), ask))
            self.assertEqual(len(told), 1)
        self.assertGreater(tried, 40)


def plain_pick(some, side, cut):
    worths = [option for option in some if option is not None]
    if not worths:
        return None
    best = min(worths) if side == -1 else max(worths)
    beyond = best <= cut if side == -1 else best >= cut
    return best if None not in some or beyond else None


class Picks(Case):
    def test_picks(self):
        for random, one, ask in asked(223, 120):
            worths = [option for _, some in plain_options(one, ask) for option in some if option is not None]
            for cut in {*worths, *[worth + 1 for worth in worths], *[worth - 1 for worth in worths], 0}:
                for side in (-1, 1):
                    expected = tuple((sheet, plain_pick(some, side, cut)) for sheet, some in plain_options(one, ask))
                    self.assertTrue(same(picks(one, ask, side, cut), expected))
        self.assertEqual(picks(cut=1, side=1, ask=OWES, sheets=BACK), (((-1, 1), 1), ((0, 0), None), ((0, 1), 0), ((1, 1), 1)))

    def test_at_the_cut(self):
        one = sheets_with(FORM, {(-1, -1): 1})
        ask = Ask(("answer", "debts"), ("is", "earns", 0))
        told = [(-1, -1, None), (-1, 0, 0), (-1, 1, 0), (1, 0, 1), (1, 1, 1), (1, 2, None)]
        for side, cut, option in told:
            self.assertTrue(same(picks(one, ask, side, cut), (((-1, -1), option),)))
        # Without the option None it is counted wherever the cut is.
        for cut in (-10, 10):
            self.assertEqual(picks(one, Ask(("answer", "debts"), ("all",)), 1, cut), (((-1, -1), 1),))

    def test_books_of_picks(self):
        for random, one, ask in asked(224, 80):
            told = list(all_choices(one, ask)) if len(one.shares) < 6 else []
            for some in random.sample(told, min(12, len(told))):
                book = book_of_picks(one, ask, some)
                self.assertIsNone(need_book(book))
                expected = {}
                for (sheet, option), (_, share) in zip(some, one.shares):
                    truth = min(truth for truth in behind(one.form, sheet) if same(told_of(one.form, ask, sheet, truth), option))
                    expected[(lot_on(one.form, sheet), truth)] = frac(share)
                self.assertTrue(same(book, book_with(one.form, expected)))
                self.assertEqual(as_dict(book), expected)
                self.assertTrue(same(plain_sheets(book), one))
                answer = answer_of(one, some)
                self.assertEqual(plain_answer_by(book, ask), answer)
                if answer is not None:
                    self.assertTrue(same(answer_by(book, ask), pair_of(answer)))
        some = picks(BACK, OWES, 1, 1)
        self.assertEqual(book_of_picks(some=some, ask=OWES, sheets=BACK), book_of_picks(BACK, OWES, some))

    def test_the_least_truth(self):
        one = sheets_with(Form((("a", 3), ("b", 2))), {(-1, -1): 1})
        ask = Ask(("answer", "b"), ("not", ("is", "a", 0)))
        for option, truth in ((None, (0, 0)), (0, (1, 0)), (1, (1, 1))):
            book = book_of_picks(one, ask, (((-1, -1), option),))
            self.assertEqual(book.shares, ((("a", "b"), truth, (1, 1)),))


if __name__ == "__main__":
    unittest.main()
