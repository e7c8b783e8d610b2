"""Point [80]: the one book that sheets tell, or two towns that nobody can tell apart by sheets."""

import unittest

from checks import Case
from helpers import (
    FORM, any_values, deep, every_sheet, frac, mutants, names, plain_own_blanks, plain_sheets, random_book, random_chart, random_maker,
    random_sheets, same, seeded, sheets_with,
)
from test_books import fault as book_fault
from test_calls import charts, plain_needed
from test_charts import A, B, C, D, EMPTY, FULL
from test_closedlots import tells_closed
from test_onebook import plain_grown
from test_towns import are_towns
from test_ways import fault
from whyblank.books import Book
from whyblank.charts import Chart
from whyblank.closedlots import closed_lot
from whyblank.errors import Refused
from whyblank.forms import Form
from whyblank.judging import Apart, Told, check_judged, judged
from whyblank.makers import book_made
from whyblank.onebook import one_book
from whyblank.sheets import sheets_of
from whyblank.towns import two_towns
from whyblank.ways import way_of, ways_between

ARROW = Chart(FORM, ((A, C),), ())
BESIDE = Chart(FORM, ((A, D),), ())


def is_every(sheets):
    return len(sheets.shares) == len(every_sheet(sheets.form))


def is_book_of(sheets, value):
    """Whether any value is a free and grown book with these sheets, told apart from the package."""
    if book_fault(value) is not None or not same(value.form, sheets.form):
        return False
    return plain_grown(value) and plain_own_blanks(value) == () and same(plain_sheets(value), sheets)


def is_judgement(chart, sheets, value):
    """Whether any value shows what a chart and sheets tell of the book, told apart from the package."""
    if not is_every(sheets):
        return False
    if type(value) is Told:
        if type(value.closed) is not tuple or len(value.closed) != len(chart.form.questions):
            return False
        lots = [tells_closed(chart, ("a", name), ("b", name), lot) for name, lot in zip(names(chart.form), value.closed)]
        return all(lots) and is_book_of(sheets, value.book)
    if type(value) is not Apart or not any(same(value.name, name) for name in names(chart.form)):
        return False
    return fault(chart, ("a", value.name), ("b", value.name), value.way) is None and are_towns(chart, (value.one, value.other))


def without_a_sheet(random, sheets):
    parts = {sheet: frac(share) for sheet, share in sheets.shares}
    del parts[random.choice(sorted(parts))]
    return sheets_with(sheets.form, parts)


class Classes(Case):
    def test_they_check_nothing(self):
        for value in any_values():
            self.assertTrue(same(vars(Told(value, book=value)), {"closed": value, "book": value}))
            apart = Apart(value, value, other=value, one=value)
            self.assertTrue(same(vars(apart), {"name": value, "way": value, "one": value, "other": value}))

    def test_equal(self):
        self.assertTrue(Told((), EMPTY) == Told((), Chart(FORM, (), ())))
        self.assertTrue(Apart("a", (), 1, 2) == Apart("a", (), 1, 2))
        for other in (Told((), FULL), Told(((),), EMPTY), Apart((), EMPTY, None, None), (), None, EMPTY):
            self.assertFalse(Told((), EMPTY) == other)
            self.assertTrue(Told((), EMPTY) != other)
        for other in (Apart("b", (), 1, 2), Apart("a", [], 1, 2), Apart("a", (), 3, 2), Apart("a", (), 1, 3), Told("a", ()), "a"):
            self.assertFalse(Apart("a", (), 1, 2) == other)
            self.assertTrue(Apart("a", (), 1, 2) != other)


class Judged(Case):
    def test_word_by_word(self):
        random = seeded(330)
        kinds = set()
        for chart in list(charts(331, 40)) + [EMPTY, FULL, ARROW, BESIDE]:
            sheets = random_sheets(random, chart.form)
            found, having = judged(chart, sheets), plain_needed(chart)
            kinds.add(type(found))
            if having:
                one, other = two_towns(chart, having[0])
                self.assertTrue(same(found, Apart(having[0], way_of(chart, having[0]), one, other)))
            else:
                closed = tuple(closed_lot(chart, name) for name in names(chart.form))
                self.assertTrue(same(found, Told(closed, one_book(sheets))))
            self.assertIs(check_judged(chart, sheets, found), True)
            self.assertIs(is_judgement(chart, sheets, found), True)
        self.assertEqual(kinds, {Told, Apart})

    def test_not_every_sheet_comes(self):
        random = seeded(332)
        for chart in list(charts(333, 30)) + [EMPTY, FULL, ARROW]:
            sheets = without_a_sheet(random, random_sheets(random, chart.form))
            self.fails(Refused, "nought", judged, chart, sheets)
            whole = judged(chart, random_sheets(random, chart.form))
            self.assertIs(check_judged(chart, sheets, whole), False)
            self.assertIs(check_judged(chart, sheets, Told((), None)), False)

    def test_the_book_of_the_main_claim(self):
        """Without an own way, the book of any maker is told by its sheets."""
        random = seeded(334)
        told = 0
        for chart in charts(335, 60):
            book = book_made(random_maker(random, chart, sides=2))
            sheets = sheets_of(book)
            if not plain_needed(chart) and is_every(sheets):
                told += 1
                self.assertEqual(judged(chart, sheets).book, book)
            elif is_every(sheets):
                one, other = map(book_made, (judged(chart, sheets).one, judged(chart, sheets).other))
                self.assertEqual(sheets_of(one), sheets_of(other))
        self.assertGreater(told, 10)

    def test_by_names(self):
        sheets = random_sheets(seeded(336), FORM)
        found = judged(sheets=sheets, chart=ARROW)
        self.assertEqual(found.name, "debts")
        self.assertIs(check_judged(value=found, sheets=sheets, chart=ARROW), True)


class Checked(Case):
    def agrees(self, chart, sheets, value):
        expected = is_judgement(chart, sheets, value)
        self.assertIs(check_judged(chart, sheets, value), expected, value)
        return expected

    def test_any_values(self):
        random = seeded(337)
        for chart in (ARROW, BESIDE):
            sheets = random_sheets(random, FORM)
            right = judged(chart, sheets)
            for value in any_values() + [deep(right), [right], (right,), vars(right)]:
                self.assertIs(self.agrees(chart, sheets, value), False)
            for value in any_values():
                self.agrees(chart, sheets, Told(value, one_book(sheets)))
                self.agrees(chart, sheets, Told(((), ()), value))
                self.agrees(chart, sheets, Told((value, ()), one_book(sheets)))
                for name in vars(right):
                    self.agrees(chart, sheets, right.__class__(**{**vars(right), name: value}))

    def test_changed_at_any_place(self):
        """Small forms, as each change is judged anew."""
        sole = Form((("a", 2),))
        sheets = random_sheets(seeded(338), sole)
        x, y = ("a", "a"), ("b", "a")
        for chart in (Chart(sole, (), ()), Chart(sole, ((x, y),), ())):
            right = judged(chart, sheets)
            told = [self.agrees(chart, sheets, value) for value in mutants(right)]
            self.assertGreater(len(told), 300)

    def test_other_lots_names_ways_towns_and_books(self):
        random = seeded(339)
        told = set()
        for chart in list(charts(340, 25)) + [FULL]:
            sheets = random_sheets(random, chart.form)
            for name in names(chart.form):
                if name in plain_needed(chart):
                    one, other = two_towns(chart, name)
                    for way in ways_between(chart, ("a", name), ("b", name))[:3]:
                        told.add(self.agrees(chart, sheets, Apart(name, way, one, other)))
                        told.add(self.agrees(chart, sheets, Apart(name, way, other, one)))
                        told.add(self.agrees(chart, sheets, Apart(name, way[::-1], one, other)))
                        told.add(self.agrees(chart, sheets, Apart(name, way, one, one)))
                        for another in names(chart.form):
                            told.add(self.agrees(chart, sheets, Apart(another, way, one, other)))
            lots = tuple(random.choice([(), closed_lot(chart, name) or ()]) for name in names(chart.form))
            told.add(self.agrees(chart, sheets, Told(lots, one_book(sheets))))
            told.add(self.agrees(chart, sheets, Told(lots, random_book(random, chart.form))))
        self.assertEqual(told, {True, False})

    def test_any_own_way_and_any_towns_will_do(self):
        """A name that is not the first, and towns by another way of another question."""
        chart = Chart(FORM, ((A, C), (B, D)), ())
        sheets = random_sheets(seeded(341), FORM)
        one, other = two_towns(chart, "earns")
        self.assertIs(self.agrees(chart, sheets, Apart("earns", (("arrow", B, D),), one, other)), True)
        self.assertIs(self.agrees(chart, sheets, Apart("debts", (("arrow", A, C),), one, other)), True)
        self.assertIs(self.agrees(chart, sheets, Apart("debts", (("arrow", B, D),), one, other)), False)

    def test_closed_lots_and_an_own_way_never_both(self):
        random = seeded(342)
        for chart in charts(343, 30):
            sheets = random_sheets(random, chart.form)
            closed = tuple(closed_lot(chart, name) for name in names(chart.form))
            self.assertIs(check_judged(chart, sheets, Told(closed, one_book(sheets))), not plain_needed(chart))

    def test_a_book_of_another_table(self):
        random = seeded(344)
        for form in (FORM, Form((("a", 3),))):
            chart, sheets, other = Chart(form, (), ()), random_sheets(random, form), random_sheets(random, form)
            closed = tuple(() for _ in form.questions)
            self.assertIs(self.agrees(chart, sheets, Told(closed, one_book(sheets))), True)
            self.assertIs(self.agrees(chart, sheets, Told(closed, one_book(other))), False)
            self.assertIs(self.agrees(chart, other, Told(closed, one_book(sheets))), False)
            self.assertIs(self.agrees(chart, sheets, Told(closed, Book(form, one_book(sheets).shares[::-1]))), False)
            self.assertIs(self.agrees(chart, sheets, Told(list(closed), one_book(sheets))), False)
            self.assertIs(self.agrees(chart, sheets, Told(closed + ((),), one_book(sheets))), False)

    def test_a_book_that_is_not_free(self):
        """It has the same sheets, but its blank hangs on its own answer."""
        form = Form((("a", 2),))
        book = Book(form, (((), (0,), (1, 4)), ((), (1,), (1, 4)), (("a",), (0,), (1, 3)), (("a",), (1,), (1, 6))))
        chart, sheets = Chart(form, (), ()), sheets_of(book)
        self.assertIs(self.agrees(chart, sheets, Told(((),), book)), False)
        self.assertIs(self.agrees(chart, sheets, Told(((),), one_book(sheets))), True)

    def test_the_greatest_forms(self):
        random = seeded(345)
        form = Form((("a", 3), ("b", 3), ("c", 3)))
        kinds = set()
        for arrows in (2, 3, 10, 10):
            chart = random_chart(random, form, arrows, 0 if arrows < 4 else 4)
            sheets = random_sheets(random, form)
            found = judged(chart, sheets)
            kinds.add(type(found))
            self.assertIs(check_judged(chart, sheets, found), True)
        self.assertEqual(kinds, {Told, Apart})
        long = sheets_with(form, {sheet: random.randrange(1, 10 ** 55) for sheet in every_sheet(form)})
        self.assertIs(check_judged(Chart(form, (), ()), long, judged(Chart(form, (), ()), long)), True)


if __name__ == "__main__":
    unittest.main()
