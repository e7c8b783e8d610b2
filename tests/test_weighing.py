"""Points [62] to [64]: asks that sheets answer."""

import unittest
from fractions import Fraction

from checks import Case
from helpers import (
    FORM, blanked, every_truth, frac, lot_on, names, pair_of, plain_answer_by, plain_test, plain_worth, random_ask, random_book, random_form,
    random_sheets, same, seeded, sheets_with, subsets,
)
from test_asks import fault as ask_fault, names_blanks
from test_onebook import plain_one_book
from test_weights import DEBTS, EARNS, PAIR, grown, grown_tables, not_grown, table
from whyblank.asks import Ask, answer_by, is_plain
from whyblank.errors import Refused
from whyblank.forms import Form
from whyblank.makers import book_made, even_maker
from whyblank.charts import Chart
from whyblank.onebook import one_book
from whyblank.sheets import sheets_of
from whyblank.weighing import answer_by_sheets, is_fair, parts_of_sheets, plain_answer, unfair_ask, weighed
from whyblank.weights import stretch

ALL = Ask(("number", 1), ("all",))
NOBODY = Ask(("number", 1), ("not", ("all",)))
OF_BLANKS = Ask(("number", 1), ("blank", "debts"))


def plain_mean(form, shares, ask):
    """The mean worth by shares of truths, None if nobody is among those asked."""
    total = told = Fraction(0)
    for truth, share in shares.items():
        if plain_test(form, ask.given, (), truth):
            total += share
            told += share * plain_worth(form, ask.worth, (), truth)
    return told / total if total else None


def full_shares(one):
    return {sheet: frac(share) for sheet, share in one.shares if -1 not in sheet}


def plain_stretches(one):
    """How often the full sheets are counted, by the one book, told apart from the package."""
    sums = {}
    for (_, truth), share in plain_one_book(one).items():
        sums[truth] = sums.get(truth, 0) + share
    return {truth: share / full_shares(one)[truth] for truth, share in sums.items()}


def asked(number, many, plain=False):
    random = seeded(number)
    for one in grown_tables(number + 1, many):
        for _ in range(4):
            yield one, random_ask(random, one.form, 4, plain)


class Weighed(Case):
    def test_full_sheets_tell_all_plain_asks(self):
        told = 0
        for one, ask in asked(160, 40, True):
            expected = plain_answer_by(one_book(one), ask)
            if expected is None:
                self.fails(Refused, "nobody", weighed, one, ask)
                continue
            told += 1
            stretched = {truth: share * plain_stretches(one)[truth] for truth, share in full_shares(one).items()}
            self.assertEqual(plain_mean(one.form, stretched, ask), expected)
            self.assertTrue(same(weighed(one, ask), pair_of(expected)))
            self.assertTrue(same(weighed(one, ask), answer_by(one_book(one), ask)))
        self.assertGreater(told, 60)
        one = grown(FORM, [(), DEBTS], [(0, 0)])
        self.assertEqual(weighed(ask=ALL, sheets=one), (1, 1))

    def test_plain_answer(self):
        for one, ask in asked(162, 40, True):
            expected = plain_mean(one.form, full_shares(one), ask)
            if expected is None:
                self.fails(Refused, "nobody", plain_answer, one, ask)
            else:
                self.assertTrue(same(plain_answer(one, ask), pair_of(expected)))
        self.assertEqual(plain_answer(ask=ALL, sheets=grown(FORM, [()], [(0, 0)])), (1, 1))

    def test_errors_in_their_order(self):
        right, wrong = grown(FORM, [(), DEBTS], [(0, 0)]), [("lots", [(-1, 0)]), ("rows", [(0, 0), (-1, 1)])]
        for call in (weighed, plain_answer):
            for word, sheets in wrong:
                one = table(FORM, sheets)
                for ask in (ALL, NOBODY):
                    self.fails(Refused, word, call, one, ask)
                for ask in (OF_BLANKS, Ask(("if", ("blank", "earns")), ("not", ("all",)))):
                    self.fails(Refused, "blank", call, one, ask)
            self.fails(Refused, "blank", call, right, OF_BLANKS)
            self.fails(Refused, "nobody", call, right, NOBODY)
            # Nobody among those who come, though there are such truths.
            self.fails(Refused, "nobody", call, right, Ask(("number", 1), ("is", "debts", 1)))


class Parts(Case):
    def test_parts(self):
        for one, ask in asked(164, 30):
            book, expected = plain_one_book(one), []
            for sheet, share in one.shares:
                lot, given, worth = lot_on(one.form, sheet), Fraction(0), Fraction(0)
                for truth in every_truth(one.form):
                    if (lot, truth) in book and blanked(one.form, lot, truth) == sheet and plain_test(one.form, ask.given, lot, truth):
                        given += book[(lot, truth)] / frac(share)
                        worth += book[(lot, truth)] / frac(share) * plain_worth(one.form, ask.worth, lot, truth)
                expected.append((sheet, pair_of(given), pair_of(worth)))
            self.assertTrue(same(parts_of_sheets(one, ask), tuple(expected)))
        one = grown(FORM, [(), DEBTS], [(0, 0), (1, 0)])
        self.assertEqual(parts_of_sheets(ask=OF_BLANKS, sheets=one), (((-1, 0), (1, 1), (1, 1)), ((0, 0), (0, 1), (0, 1)), ((1, 0), (0, 1), (0, 1))))

    def test_answers_by_sheets(self):
        told = nobody = 0
        for one, ask in asked(166, 40):
            expected = plain_answer_by(one_book(one), ask)
            if expected is None:
                nobody += 1
                self.fails(Refused, "nobody", answer_by_sheets, one, ask)
            else:
                told += 1
                self.assertTrue(same(answer_by_sheets(one, ask), pair_of(expected)))
                self.assertTrue(same(answer_by_sheets(one, ask), answer_by(one_book(one), ask)))
        self.assertGreater(min(told, nobody), 10)
        self.assertEqual(answer_by_sheets(ask=OF_BLANKS, sheets=grown(FORM, [(), DEBTS], [(0, 0)])), (1, 1))

    def test_asks_of_blanks(self):
        tried = 0
        for one, ask in asked(168, 40):
            if names_blanks(ask.given) and plain_answer_by(one_book(one), ask) is not None:
                tried += 1
                self.assertTrue(same(answer_by_sheets(one, ask), answer_by(one_book(one), ask)))
                self.fails(Refused, "blank", weighed, one, ask)
        self.assertGreater(tried, 10)

    def test_errors(self):
        for word, sheets in (("lots", [(-1, 0)]), ("rows", [(0, 0), (-1, 1)])):
            for ask in (ALL, NOBODY, OF_BLANKS):
                self.fails(Refused, word, parts_of_sheets, table(FORM, sheets), ask)
                self.fails(Refused, word, answer_by_sheets, table(FORM, sheets), ask)
            self.fails(Refused, word, is_fair, table(FORM, sheets))
            self.fails(Refused, word, unfair_ask, table(FORM, sheets))
        one = grown(FORM, [(), DEBTS], [(0, 0)])
        self.fails(Refused, "nobody", answer_by_sheets, one, NOBODY)
        self.fails(Refused, "nobody", answer_by_sheets, one, Ask(("number", 1), ("blank", "earns")))
        self.assertEqual({(given, worth) for _, given, worth in parts_of_sheets(one, NOBODY)}, {((0, 1), (0, 1))})

    def test_tables_that_are_not_grown(self):
        random = seeded(170)
        for _ in range(40):
            one = random_sheets(random, random_form(random), random.choice([2, 5, 9]))
            word = not_grown(one)
            if word is not None:
                for call in (parts_of_sheets, answer_by_sheets, weighed, plain_answer):
                    self.fails(Refused, word, call, one, ALL)


class Fair(Case):
    def judged(self, one):
        fair = len(set(plain_stretches(one).values())) == 1
        self.assertIs(is_fair(one), fair)
        self.assertEqual(len({stretch(one, truth) for truth in full_shares(one)}) == 1, fair)
        ask = unfair_ask(one)
        if fair:
            self.assertIsNone(ask)
            return
        self.assertIsNone(ask_fault(one.form, ask))
        self.assertIs(is_plain(ask), True)
        self.assertNotEqual(plain_answer(one, ask), weighed(one, ask))

    def test_unfair_tables(self):
        for one in grown_tables(171, 60):
            self.judged(one)
        random = seeded(172)
        for form in (FORM, Form((("a", 2), ("b", 2), ("c", 2), ("d", 2))), Form((("all", 2), ("given", 3)))):
            self.judged(random_sheets(random, form))

    def test_fair_tables(self):
        for form in (FORM, Form((("a", 3),)), Form((("a", 2), ("b", 3), ("c", 2)))):
            one = sheets_of(book_made(even_maker(Chart(form, (), ()))))
            self.assertIs(is_fair(sheets=one), True)
            self.assertIsNone(unfair_ask(sheets=one))
            self.judged(one)
        # One truth alone is fair, whatever its stretch; so is each table without blanks.
        self.judged(grown(FORM, [(), DEBTS, EARNS, PAIR], [(0, 1)]))
        self.assertIs(is_fair(grown(FORM, [(), DEBTS, EARNS, PAIR], [(0, 1)])), True)
        self.assertIs(is_fair(grown(FORM, [()], every_truth(FORM))), True)

    def test_one_share_that_is_not_fair(self):
        parts = {truth: 2 for truth in every_truth(FORM)}
        parts.update({(-1, 0): 1, (-1, 1): 1})
        self.assertIs(is_fair(sheets_with(FORM, parts)), True)
        parts[(-1, 1)] = 2
        one = sheets_with(FORM, parts)
        self.assertIs(is_fair(one), False)
        self.judged(one)

    def test_no_plain_ask_where_it_is_fair(self):
        random = seeded(173)
        parts = {truth: random.randrange(1, 9) for truth in every_truth(FORM)}
        for answer in (0, 1):
            parts[(-1, answer)] = (parts[(0, answer)] + parts[(1, answer)]) * 3
        one = sheets_with(FORM, parts)
        self.assertIs(is_fair(one), True)
        for _ in range(60):
            ask = random_ask(random, FORM, 4, True)
            if plain_mean(FORM, full_shares(one), ask) is not None:
                self.assertTrue(same(weighed(one, ask), plain_answer(one, ask)))


class Great(Case):
    def test_the_greatest_form(self):
        form = Form((("a", 4), ("b", 4), ("c", 3), ("d", 2)))
        random = seeded(174)
        one = random_sheets(random, form)
        ask = Ask(("plus", ("answer", "a"), ("times", ("answer", "b"), ("answer", "c"))), ("either", ("is", "d", 1), ("is", "a", 0)))
        book = one_book(one)
        self.assertEqual(weighed(one, ask), answer_by(book, ask))
        self.assertEqual(answer_by_sheets(one, ask), answer_by(book, ask))
        self.assertIs(is_fair(one), False)
        unfair = unfair_ask(one)
        self.assertNotEqual(plain_answer(one, unfair), weighed(one, unfair))
        self.assertEqual(len(names(form)) + len(subsets(names(form))), 20)
        self.assertIsNotNone(plain_answer_by(random_book(random, FORM, 3), ALL))


if __name__ == "__main__":
    unittest.main()
