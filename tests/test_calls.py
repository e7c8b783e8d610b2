"""Points [68] and [69]: the fewest questions to call back."""

import unittest

from checks import Case
from helpers import (
    FORM, WIDE, any_values, deep, mutants, names, random_chart, random_form, random_maker, same, seeded, subsets,
)
from test_called import is_lot
from test_charts import A, B, C, D, EMPTY, FULL
from test_closedlots import tells_closed
from test_ways import all_ways, fault
from whyblank.called import book_called, called_sheets, is_full
from whyblank.calls import call_paper, calls_tell, check_calls, needed_calls, towns_beside
from whyblank.charts import Chart
from whyblank.errors import Refused
from whyblank.forms import Form
from whyblank.makers import book_made
from whyblank.towns import two_towns
from whyblank.ways import way_of, ways_between

WAY = (("arrow", A, C),)
HALVED = Chart(FORM, ((A, C), (B, C)), ())


def plain_needed(chart):
    """The names of the questions with an own way, by trying all ways."""
    return tuple(name for name in names(chart.form) if ways_between(chart, ("a", name), ("b", name)))


def is_call_paper(chart, called, value):
    """Whether any value shows that any value is the lot to call back, told apart from the package."""
    if not is_lot(chart.form, called) or type(value) is not tuple or len(value) != len(chart.form.questions):
        return False
    for row, name in zip(value, names(chart.form)):
        if type(row) is not tuple or len(row) != 3 or not same(row[0], name):
            return False
        one, other = ("a", name), ("b", name)
        if not same(row[1], "way" if name in called else "closed"):
            return False
        if not (fault(chart, one, other, row[2]) is None if name in called else tells_closed(chart, one, other, row[2])):
            return False
    return True


def charts(number, many):
    """Charts, some of whose questions have an own way."""
    random = seeded(number)
    for _ in range(many):
        form = random_form(random)
        yield random_chart(random, form, random.randrange(6), random.randrange(4))


class Needed(Case):
    def test_the_lot(self):
        kinds = set()
        for chart in list(charts(320, 80)) + [EMPTY, FULL, HALVED]:
            expected = plain_needed(chart)
            self.assertTrue(same(needed_calls(chart), expected))
            kinds.add(len(expected))
            for called in subsets(names(chart.form)):
                self.assertIs(calls_tell(chart, called), set(expected) <= set(called))
        self.assertLessEqual({0, 1, 2}, kinds)
        self.assertEqual(needed_calls(chart=HALVED), ("debts",))
        self.assertIs(calls_tell(called=("earns",), chart=HALVED), False)

    def test_small_charts_by_trying_all_rows_of_stretches(self):
        for chart in charts(321, 40):
            if len(chart.arrows) + len(chart.bows) < 6:
                expected = tuple(name for name in names(chart.form) if all_ways(chart, ("a", name), ("b", name)))
                self.assertTrue(same(needed_calls(chart), expected))

    def test_towns_beside(self):
        told = set()
        for chart in list(charts(322, 60)) + [EMPTY, FULL]:
            for called in subsets(names(chart.form)):
                left = [name for name in plain_needed(chart) if name not in called]
                told.add(len(left))
                if left:
                    self.assertTrue(same(towns_beside(chart, called), two_towns(chart, left[0])))
                else:
                    self.fails(Refused, "told", towns_beside, chart, called)
        self.assertGreater(len(told), 2)
        self.fails(Refused, "told", towns_beside, EMPTY, ())
        self.assertEqual(towns_beside(called=("earns",), chart=HALVED), two_towns(HALVED, "debts"))


class WhatTheyTell(Case):
    def test_the_called_sheets_tell_the_book_exactly_if_all_are_called(self):
        random = seeded(323)
        found = set()
        for chart in list(charts(324, 25)) + [FULL, HALVED]:
            for called in subsets(names(chart.form)):
                found.add(calls_tell(chart, called))
                if calls_tell(chart, called):
                    book = book_made(random_maker(random, chart, sides=2))
                    self.assertIs(is_full(called_sheets(book, called)), True)
                    self.assertEqual(book_called(called_sheets(book, called)), book)
                else:
                    one, other = map(book_made, towns_beside(chart, called))
                    self.assertIs(is_full(called_sheets(one, called)), True)
                    self.assertEqual(called_sheets(one, called), called_sheets(other, called))
                    self.assertNotEqual(one, other)
        self.assertEqual(found, {True, False})

    def test_just_one_fewest_lot(self):
        for chart in charts(325, 40):
            telling = [called for called in subsets(names(chart.form)) if calls_tell(chart, called)]
            self.assertTrue(telling)
            least = min(telling, key=len)
            self.assertEqual(least, needed_calls(chart))
            for called in telling:
                self.assertTrue(set(least) <= set(called))


class Papers(Case):
    def agrees(self, chart, called, value):
        expected = is_call_paper(chart, called, value)
        self.assertIs(check_calls(chart, called, value), expected, (called, value))
        return expected

    def test_papers_that_are_told(self):
        for chart in list(charts(326, 80)) + [EMPTY, FULL, HALVED]:
            paper = call_paper(chart)
            self.assertIs(is_call_paper(chart, plain_needed(chart), paper), True)
            for called in subsets(names(chart.form)):
                self.assertIs(self.agrees(chart, called, paper), called == needed_calls(chart))
        self.assertIs(check_calls(value=call_paper(chart=HALVED), called=("debts",), chart=HALVED), True)

    def test_other_ways_and_lots(self):
        """Any own way and any closed lot will do."""
        told = set()
        for chart in charts(327, 40):
            needed = plain_needed(chart)
            for at, name in enumerate(names(chart.form)):
                one, other = ("a", name), ("b", name)
                paper = call_paper(chart)
                nodes = [(kind, some) for kind in "ab" for some in names(chart.form)]
                some = [("way", way) for way in ways_between(chart, one, other)] + [("closed", lot) for lot in subsets(nodes)]
                for word, shown in some:
                    told.add(self.agrees(chart, needed, paper[:at] + ((name, word, shown),) + paper[at + 1:]))
        self.assertEqual(told, {True, False})

    def test_rows_left_out_exchanged_and_twice(self):
        for chart in [EMPTY, FULL, HALVED] + list(charts(328, 30)):
            called, paper = needed_calls(chart), call_paper(chart)
            turned = [paper[1:], paper[:-1], paper + paper[:1], paper[::-1], paper[:1] + paper, list(paper), (paper,), paper * 2]
            turned += [tuple(list(row) for row in paper), tuple(row[:2] for row in paper), tuple(row + ((),) for row in paper)]
            for word in ("way", "closed", "told", "", None, True):
                turned.append(tuple((row[0], word, row[2]) for row in paper))
            for value in turned:
                self.assertIs(self.agrees(chart, called, value), same(value, paper))

    def test_any_values_as_paper(self):
        for chart in (HALVED, EMPTY):
            called, paper = needed_calls(chart), call_paper(chart)
            for value in any_values() + list(mutants(paper)) + [deep(paper), deep(paper, list)]:
                self.agrees(chart, called, value)
            for value in any_values():
                self.agrees(chart, called, (value,) + paper[1:])
                self.agrees(chart, called, paper[:1] + (("earns", "closed", value),))
                self.agrees(chart, called, ((value,) + paper[0][1:],) + paper[1:])

    def test_any_values_as_called(self):
        for chart in (HALVED, EMPTY, FULL):
            paper = call_paper(chart)
            for value in any_values() + list(mutants(needed_calls(chart))) + subsets(names(FORM)) + [["debts"], ("debts", "debts")]:
                self.agrees(chart, value, paper)
                self.agrees(chart, value, value)

    def test_a_way_of_another_question(self):
        chart = Chart(FORM, ((A, C), (B, D)), ())
        ways = [(("arrow", A, C),), (("arrow", B, D),)]
        self.assertIs(check_calls(chart, ("debts", "earns"), (("debts", "way", ways[0]), ("earns", "way", ways[1]))), True)
        self.assertIs(check_calls(chart, ("debts", "earns"), (("debts", "way", ways[1]), ("earns", "way", ways[0]))), False)
        self.assertIs(check_calls(chart, ("debts", "earns"), (("earns", "way", ways[1]), ("debts", "way", ways[0]))), False)
        self.assertIs(check_calls(chart, ("debts",), (("debts", "way", ways[0]), ("earns", "closed", ()))), False)
        self.assertIs(check_calls(HALVED, ("debts",), (("debts", "way", WAY), ("earns", "closed", (C,)))), True)
        self.assertIs(check_calls(HALVED, ("debts",), (("debts", "way", WAY), ("earns", "closed", ()))), False)

    def test_great_charts(self):
        form = Form(tuple((letter, 9) for letter in "abcdefgh"))
        random = seeded(329)
        for _ in range(20):
            chart = random_chart(random, form, 10, 4)
            self.assertIs(is_call_paper(chart, needed_calls(chart), call_paper(chart)), True)
            self.assertIs(check_calls(chart, needed_calls(chart), call_paper(chart)), True)
        chart = random_chart(random, WIDE, 10, 4)
        self.assertEqual(needed_calls(chart), tuple(name for name in names(WIDE) if way_of(chart, name) is not None))


if __name__ == "__main__":
    unittest.main()
