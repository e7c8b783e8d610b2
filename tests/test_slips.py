"""Point [83]: slips."""

import unittest
from fractions import Fraction

from checks import Case
from helpers import (
    FORM, any_values, deep, mutants, names, pair_of, random_book, random_chart, random_form, random_sheets, same, seeded,
)
from test_calls import is_call_paper, plain_needed
from test_charts import A, B, C, D, EMPTY, FULL, fault as chart_fault, is_node
from test_closedlots import tells_closed
from test_cuts import is_right_any
from test_judging import is_book_of, is_every, is_judgement
from test_onebook import plain_weights
from test_sheets import fault as sheets_fault
from test_towns import are_towns
from test_ways import fault
from test_weights import grown_tables, not_grown
from whyblank.calls import call_paper, needed_calls
from whyblank.charts import Chart
from whyblank.closedlots import closed_lot
from whyblank.cuts import apart_ways, fewest_cut
from whyblank.forms import Form
from whyblank.judging import judged
from whyblank.onebook import one_book
from whyblank.sheets import Sheets, sheets_of
from whyblank.slips import slip_holds
from whyblank.towns import two_towns
from whyblank.ways import way_of
from whyblank.weights import weights

SOLE = Form((("a", 2),))
X, Y = ("a", "a"), ("b", "a")
WORDS = ("way", "closed", "calls", "towns", "cut", "weights", "book", "judged")


def is_tuple(value, many):
    return type(value) is tuple and len(value) == many


def is_chart_with(value, many):
    return is_tuple(value, many) and chart_fault(value[0]) is None


def is_weights(sheets, value):
    """Whether any value is the tuple of the weights of a table, told apart from the package."""
    if not_grown(sheets) is not None:
        return False
    found = sorted((sheet, pair_of(Fraction(one))) for sheet, one in plain_weights(sheets).items() if -1 in sheet)
    return same(value, tuple(found))


def is_slip(value):
    """Whether any value is a slip that holds, told apart from the package."""
    if not is_tuple(value, 3):
        return False
    word, question, paper = value
    if same(word, "way") or same(word, "closed"):
        if not is_chart_with(question, 2) or not any(same(question[1], name) for name in names(question[0].form)):
            return False
        ends = (("a", question[1]), ("b", question[1]))
        return fault(question[0], *ends, paper) is None if word == "way" else tells_closed(question[0], *ends, paper)
    if same(word, "calls"):
        return is_chart_with(question, 2) and is_call_paper(question[0], question[1], paper)
    if same(word, "towns"):
        return chart_fault(question) is None and are_towns(question, paper)
    if same(word, "cut"):
        if not is_chart_with(question, 3) or not all(is_node(question[0].form, node) for node in question[1:]):
            return False
        return question[1] != question[2] and is_right_any(*question, paper)
    if same(word, "weights"):
        return sheets_fault(question) is None and is_weights(question, paper)
    if same(word, "book"):
        return sheets_fault(question) is None and is_every(question) and is_book_of(question, paper)
    if not same(word, "judged") or not is_chart_with(question, 2) or sheets_fault(question[1]) is not None:
        return False
    return same(question[0].form, question[1].form) and is_judgement(*question, paper)


def slips_of(chart, sheets):
    """Slips of all words that hold, for a chart and a table of sheets of one form in which every sheet comes."""
    found = [("calls", (chart, needed_calls(chart)), call_paper(chart)), ("judged", (chart, sheets), judged(chart, sheets))]
    found += [("weights", sheets, weights(sheets)), ("book", sheets, one_book(sheets))]
    for name in names(chart.form):
        one, other = ("a", name), ("b", name)
        found.append(("cut", (chart, one, other), (apart_ways(chart, one, other), fewest_cut(chart, one, other))))
        if name in plain_needed(chart):
            found += [("way", (chart, name), way_of(chart, name)), ("towns", chart, two_towns(chart, name))]
        else:
            found.append(("closed", (chart, name), closed_lot(chart, name)))
    return found


def random_slips(number, many):
    random = seeded(number)
    for _ in range(many):
        form = random.choice([SOLE, FORM, Form((("a", 3),)), Form((("a", 2), ("b", 3)))])
        chart = random_chart(random, form, random.randrange(4), random.randrange(3))
        yield slips_of(chart, random_sheets(random, form))


class Slips(Case):
    def agrees(self, value):
        expected = is_slip(value)
        self.assertIs(slip_holds(value), expected, value)
        return expected

    def test_slips_of_every_word(self):
        words = set()
        for slips in random_slips(410, 25):
            for slip in slips:
                words.add(slip[0])
                self.assertIs(self.agrees(slip), True)
        self.assertEqual(words, set(WORDS))
        self.assertIs(slip_holds(value=("calls", (EMPTY, ()), call_paper(EMPTY))), True)

    def test_words_questions_and_papers_exchanged(self):
        told = set()
        for slips in list(random_slips(411, 4)) + [slips_of(FULL, random_sheets(seeded(412), FORM))]:
            for one in slips:
                for word in WORDS + ("told", "", None, True, 0, ["way"], ("way",)):
                    told.add(self.agrees((word, one[1], one[2])))
                for other in slips:
                    told.add(self.agrees((one[0], other[1], one[2])))
                    told.add(self.agrees((one[0], one[1], other[2])))
                    self.agrees((one, other))
        self.assertEqual(told, {True, False})

    def test_any_values(self):
        slips = slips_of(Chart(FORM, ((A, C),), ()), random_sheets(seeded(413), FORM))
        for value in any_values():
            self.assertIs(self.agrees(value), False)
            for slip in {slip[0]: slip for slip in slips}.values():
                for at in range(3):
                    self.agrees(slip[:at] + (value,) + slip[at + 1:])
                if type(slip[1]) is tuple:
                    for at in range(len(slip[1])):
                        self.agrees((slip[0], slip[1][:at] + (value,) + slip[1][at + 1:], slip[2]))
        for slip in slips:
            for value in (list(slip), slip[:2], slip + ((),), (slip,), deep(slip), (slip[0], list(slip[1]) if type(slip[1]) is tuple else [slip[1]], slip[2])):
                self.assertIs(self.agrees(value), False)

    def test_changed_at_any_place(self):
        """Slips of one question, as each change is judged anew."""
        sheets = random_sheets(seeded(414), SOLE)
        told = {True: 0, False: 0}
        for chart in (Chart(SOLE, (), ()), Chart(SOLE, ((X, Y),), ())):
            for slip in slips_of(chart, sheets):
                for value in mutants(slip):
                    told[self.agrees(value)] += 1
        self.assertGreater(told[False], 5000)

    def test_questions_with_charts_or_tables_that_are_none(self):
        sheets = random_sheets(seeded(415), FORM)
        charts = [Chart(FORM, [], ()), Chart(FORM, ((C, A),), ()), Chart(None, (), ()), Chart(FORM, (), ((C, A),)), FORM, None, (EMPTY,)]
        tables = [Sheets(FORM, list(sheets.shares)), Sheets(FORM, sheets.shares[::-1]), Sheets(FORM, sheets.shares[1:]), Sheets(None, ()), FORM, None]
        for slip in slips_of(EMPTY, sheets):
            for chart in charts:
                if slip[0] in ("closed", "calls", "cut", "judged"):
                    self.assertIs(self.agrees((slip[0], (chart,) + slip[1][1:], slip[2])), False)
                self.assertIs(self.agrees(("towns", chart, two_towns(FULL, "debts"))), False)
            for table in tables:
                if slip[0] in ("weights", "book"):
                    self.assertIs(self.agrees((slip[0], table, slip[2])), False)
                if slip[0] == "judged":
                    self.assertIs(self.agrees(("judged", (EMPTY, table), slip[2])), False)

    def test_names_and_nodes_that_are_none(self):
        chart = Chart(FORM, ((A, C),), ())
        for name in ("pets", "", None, ("debts",), C):
            self.assertIs(self.agrees(("way", (chart, name), way_of(chart, "debts"))), False)
            self.assertIs(self.agrees(("closed", (chart, name), ())), False)
        for one, other in ((A, A), (A, ("b", "pets")), (A, ["b", "debts"]), (None, C), (C, None)):
            self.assertIs(self.agrees(("cut", (chart, one, other), ((), ()))), False)
        self.assertIs(self.agrees(("cut", (chart, A, B), ((), ()))), True)
        self.assertIs(self.agrees(("cut", (chart, A, C), (((("arrow", A, C),),), (("arrow", A, C),)))), True)
        self.assertIs(self.agrees(("cut", (chart, A, C, D), ((), ()))), False)

    def test_weights_and_books_of_tables_in_which_not_every_sheet_comes(self):
        for sheets in grown_tables(416, 25):
            self.assertIs(self.agrees(("weights", sheets, weights(sheets))), True)
            self.assertIs(self.agrees(("book", sheets, one_book(sheets))), is_every(sheets))
        random = seeded(417)
        for _ in range(20):
            sheets = sheets_of(random_book(random, random_form(random, 2, 3), 4))
            self.agrees(("weights", sheets, ()))
            self.assertIs(self.agrees(("book", sheets, random_book(random, sheets.form, 4))), False)

    def test_a_chart_and_a_table_of_other_forms(self):
        sheets = random_sheets(seeded(418), SOLE)
        chart = Chart(Form((("b", 2),)), (), ())
        paper = judged(Chart(SOLE, (), ()), sheets)
        self.assertIs(self.agrees(("judged", (Chart(SOLE, (), ()), sheets), paper)), True)
        self.assertIs(self.agrees(("judged", (chart, sheets), paper)), False)
        self.assertIs(self.agrees(("judged", (Chart(Form((("a", 3),)), (), ()), sheets), paper)), False)

    def test_great_charts(self):
        form = Form(tuple((letter, 9) for letter in "abcdefgh"))
        random = seeded(419)
        sheets = Sheets(form, tuple(sorted((tuple(random.randrange(-1, 9) for _ in range(8)), (1, 40)) for _ in range(40))))
        for _ in range(6):
            chart = random_chart(random, form, 10, 4)
            paper = call_paper(chart)
            self.assertIs(slip_holds(("calls", (chart, needed_calls(chart)), paper)), True)
            for name, word, shown in paper:
                self.assertIs(slip_holds((word, (chart, name), shown)), True)
            one, other = random.sample([(kind, letter) for kind in "ab" for letter in "abcdefgh"], 2)
            self.assertIs(slip_holds(("cut", (chart, one, other), (apart_ways(chart, one, other), fewest_cut(chart, one, other)))), True)
            for paper in (None, (), two_towns(FULL, "debts"), judged(EMPTY, random_sheets(random, FORM))):
                self.assertIs(slip_holds(("towns", chart, paper)), False)
                self.assertIs(slip_holds(("judged", (chart, sheets), paper)), False)
                self.assertIs(slip_holds(("book", sheets, paper)), False)
                self.assertIs(slip_holds(("weights", sheets, paper)), False)


if __name__ == "__main__":
    unittest.main()
