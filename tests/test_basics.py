"""Points [1] to [3]: what holds for every function of every module."""

import copy
import itertools
import unittest

from helpers import (
    FORM, all_nodes, every_sheet, every_truth, is_package_object, names, random_book, random_chart, random_maker, random_sheets, same, seeded, subsets,
)
from test_charts import A, B, C, D
from whyblank import (
    asks, asktext, audit, books, bounds, called, calls, charts, charttext, choices, closedlots, commands, counting, cuts, desk, facts, forms,
    fractions, judging, kept, leans, lotpapers, lotrules, makers, meetings, onebook, rowpapers, rowrules, sheets, slips, study, summing, tallies,
    texts, towns, ways, weighing, weights,
)
from whyblank.asks import Ask
from whyblank.books import Book
from whyblank.called import CalledSheets
from whyblank.charts import Chart
from whyblank.errors import InvalidBook, InvalidChart, InvalidForm, InvalidFraction, InvalidMaker, InvalidSheets, InvalidSize, NoName, Refused
from whyblank.forms import Form
from whyblank.kinds import is_int, is_name, is_number
from whyblank.makers import Maker
from whyblank.sheets import Sheets
from whyblank.tallies import Tally

RANDOM = seeded(80)
CHART = Chart(FORM, ((A, B), (A, D)), ((B, D),))
MAKER = random_maker(RANDOM, CHART)
BOOK = random_book(RANDOM, FORM)
TABLE = random_sheets(RANDOM, FORM)
TALLY = Tally(FORM, ((3, 0, ((), (0, 0))),))
OTHER = Tally(FORM, ((3, 0, ((0, 0),)), (4, 1, ((1, -1),))))
FACTOR = summing.factors_of(MAKER)[1]
WAY = (("arrow", A, D), ("bow", B, D))
BOW = (B, D)
ONE_BOOK = onebook.one_book(TABLE)
NEVER = ((), ("debts",), ("debts", "earns"))
EVERY = ((), ("debts",), ("debts", "earns"), ("earns",))
GAP = (("debts", "earns"), ("earns",))
ALIKE = ((0, 0), (1, 1))
ASK = Ask(("plus", ("answer", "debts"), ("number", 1)), ("not", ("both", ("is", "earns", 0), ("is", "debts", 1))))
CALLED = called.called_sheets(BOOK, ("debts",))
COUNTS = (((-1, 0), 2), ((0, 0), 3), ((1, 0), 1))
PICKS = choices.picks(TABLE, ASK, 1, 1)
OWN = (("arrow", A, C),)
LEANING = Chart(FORM, ((A, C), (B, D)), ())
TOWNS = towns.two_towns(LEANING, "debts")
JUDGED = judging.judged(LEANING, TABLE)
SLIP = ("judged", (LEANING, TABLE), JUDGED)
LINES = ["sheet 0 0 .", "draw debts ?debts", "told", "book", "tally"]

CALLS = [
    (fractions.need_fraction, {"value": (1, 2)}), (fractions.is_fraction, {"value": (1, 2)}), (fractions.fraction, {"top": 2, "bottom": 4}),
    (fractions.whole, {"number": 2}), (fractions.plus, {"one": (1, 2), "other": (1, 3)}), (fractions.minus, {"one": (1, 2), "other": (1, 3)}),
    (fractions.times, {"one": (1, 2), "other": (1, 3)}), (fractions.over, {"one": (1, 2), "other": (1, 3)}),
    (fractions.compared, {"one": (1, 2), "other": (1, 3)}), (fractions.sign_of, {"one": (1, 2)}),
    (fractions.total_of, {"some": [(1, 2), (1, 3)]}), (fractions.product_all, {"some": [(1, 2), (1, 3)]}),
    (fractions.least_of, {"some": [(1, 2), (1, 3)]}), (fractions.greatest_of, {"some": [(1, 2), (1, 3)]}),
    (fractions.fraction_text, {"one": (1, 2)}), (fractions.read_fraction, {"value": "1/2"}),
    (forms.need_form, {"value": FORM}), (forms.is_form, {"value": FORM}), (forms.names_of, {"form": FORM}),
    (forms.place_of, {"form": FORM, "name": "earns"}), (forms.answers_of, {"form": FORM, "name": "earns"}),
    (forms.is_truth, {"form": FORM, "value": (0, 0)}), (forms.is_sheet, {"form": FORM, "value": (0, -1)}),
    (forms.is_lot, {"form": FORM, "value": ("debts",)}), (forms.truths, {"form": FORM}), (forms.all_sheets, {"form": FORM}),
    (forms.lots_within, {"lot": ("a", "b")}), (forms.lots, {"form": FORM}), (forms.without_names, {"lot": ("a", "b"), "names": ("a",)}),
    (forms.sheet_of, {"form": FORM, "lot": ("debts",), "truth": (0, 1)}), (forms.lot_of, {"form": FORM, "sheet": (-1, 1)}),
    (forms.truths_behind, {"form": FORM, "sheet": (-1, 1)}),
    (books.need_book, {"value": BOOK}), (books.is_book, {"value": BOOK}),
    (books.gathered_book, {"form": FORM, "shares": list(BOOK.shares)}), (books.share_of, {"book": BOOK, "lot": (), "truth": (0, 1)}),
    (books.part, {"book": BOOK, "lot": ("debts",)}), (books.lots_in, {"book": BOOK}), (books.lot_shares, {"book": BOOK}),
    (books.truth_shares, {"book": BOOK}), (books.mixed_book, {"one": BOOK, "other": makers.book_made(MAKER), "level": (1, 3)}),
    (sheets.need_sheets, {"value": TABLE}), (sheets.is_sheets, {"value": TABLE}),
    (sheets.gathered_sheets, {"form": FORM, "shares": list(TABLE.shares)}), (sheets.sheet_share, {"sheets": TABLE, "sheet": (0, -1)}),
    (sheets.sheets_of, {"book": BOOK}), (sheets.blank_share, {"sheets": TABLE, "name": "debts"}),
    (sheets.struck_book, {"book": BOOK, "name": "debts"}), (sheets.struck_sheets, {"sheets": TABLE, "name": "debts"}),
    (charts.nodes_of, {"form": FORM}), (charts.need_chart, {"value": CHART}), (charts.is_chart, {"value": CHART}),
    (charts.parents, {"chart": CHART, "node": D}), (charts.children, {"chart": CHART, "node": A}),
    (charts.partners, {"chart": CHART, "node": D}), (charts.led_from, {"chart": CHART, "nodes": [A, C]}),
    (charts.led_to, {"chart": CHART, "nodes": [D, C]}), (charts.order_of, {"chart": CHART}),
    (charts.order_or_ring, {"form": FORM, "arrows": ((A, B), (B, A))}),
    (charts.check_order_or_ring, {"form": FORM, "arrows": ((A, B), (B, A)), "value": ("ring", (A, B))}),
    (charts.with_arrow, {"chart": CHART, "start": A, "end": C}), (charts.with_bow, {"chart": CHART, "one": C, "other": A}),
    (charts.chart_part, {"chart": CHART, "names": ["earns"]}), (charts.groups_of, {"chart": CHART}),
    (charttext.chart_text, {"chart": CHART}), (charttext.read_chart, {"value": "a 2\na > ?a"}),
    (ways.stretches_of, {"chart": CHART}), (ways.without, {"chart": CHART, "stretches": [("bow", B, D)]}),
    (ways.stops_of, {"way": WAY, "one": A}), (ways.need_way, {"chart": CHART, "one": A, "other": B, "value": WAY}),
    (ways.is_way, {"chart": CHART, "one": A, "other": B, "value": WAY}), (ways.turned_way, {"way": WAY}),
    (ways.ways_between, {"chart": CHART, "one": A, "other": B}), (ways.way_between, {"chart": CHART, "one": A, "other": B}),
    (ways.way_of, {"chart": CHART, "name": "earns"}), (ways.own_ways, {"chart": CHART}), (ways.joined_pairs, {"chart": CHART}),
    (closedlots.is_closed, {"chart": CHART, "one": A, "other": C, "value": (B, D)}),
    (closedlots.closed_between, {"chart": CHART, "one": A, "other": C}), (closedlots.closed_lot, {"chart": CHART, "name": "debts"}),
    (closedlots.check_closed, {"chart": CHART, "name": "debts", "value": (B, D)}),
    (makers.values_of, {"form": FORM, "node": A}), (makers.feeders, {"chart": CHART, "node": D}),
    (makers.choices, {"chart": CHART, "coins": MAKER.coins, "node": D}), (makers.need_maker, {"value": MAKER}),
    (makers.is_maker, {"value": MAKER}), (makers.even_maker, {"chart": CHART}), (makers.is_sure, {"maker": MAKER}),
    (makers.share_made, {"maker": MAKER, "lot": ("debts",), "truth": (0, 1)}), (makers.book_made, {"maker": MAKER}),
    (makers.person_made, {"maker": MAKER, "draws": [7, 11, 13, 17, 19]}), (makers.free_given_rest, {"book": BOOK, "one": A, "other": D}),
    (makers.maker_for, {"chart": Chart(FORM, CHART.arrows, ()), "book": BOOK}),
    (summing.margin, {"book": BOOK, "nodes": (A, D)}), (summing.factors_of, {"maker": MAKER}),
    (summing.product_of, {"one": FACTOR, "other": summing.factors_of(MAKER)[2]}),
    (summing.summed_out, {"factor": FACTOR, "thing": FACTOR.things[0]}),
    (summing.summed, {"maker": MAKER, "nodes": (A, D), "order": (B, BOW, C)}), (summing.needed, {"chart": CHART, "nodes": (D,)}),
    (summing.summed_needed, {"maker": MAKER, "nodes": (A, D)}),
    (tallies.need_letter, {"form": FORM, "value": (0, 0, ())}), (tallies.need_tally, {"value": TALLY}), (tallies.is_tally, {"value": TALLY}),
    (tallies.tally_of, {"form": FORM, "letters": [(0, 1, (0, 0)), (0, 1, ())]}), (tallies.heard, {"tally": TALLY, "letter": (3, 0, (1, 1))}),
    (tallies.merged, {"one": TALLY, "other": OTHER}), (tallies.missing_letters, {"one": TALLY, "other": OTHER}),
    (weights.lots_that_come, {"sheets": TABLE}), (weights.truths_that_come, {"sheets": TABLE}), (weights.is_every, {"sheets": TABLE}),
    (weights.why_not_grown, {"sheets": TABLE}), (weights.weight, {"sheets": TABLE, "sheet": (-1, -1)}), (weights.weights, {"sheets": TABLE}),
    (weights.check_weights, {"sheets": TABLE, "value": weights.weights(TABLE)}), (weights.behind, {"sheets": TABLE, "sheet": (-1, 0)}),
    (weights.stretch, {"sheets": TABLE, "truth": (0, 1)}),
    (onebook.is_free, {"book": BOOK, "name": "debts"}), (onebook.own_blanks, {"book": BOOK}), (onebook.is_grown, {"book": BOOK}),
    (onebook.one_book, {"sheets": TABLE}), (onebook.check_book, {"sheets": TABLE, "value": ONE_BOOK}),
    (onebook.interplay, {"book": BOOK, "lot": ("debts",), "truth": (0, 1)}),
    (onebook.grown_book, {"form": FORM, "fulls": (((0, 0), (1, 2)), ((0, 1), (2, 1))), "weights": (((0, -1), (3, 1)),)}),
    (lotrules.need_family, {"form": FORM, "value": NEVER}), (lotrules.gaps, {"lots": NEVER}), (lotrules.closed_over, {"lots": NEVER}),
    (lotrules.told_lots, {"lots": NEVER}), (lotrules.closed_families, {"form": FORM}),
    (lotrules.linked, {"lots": NEVER, "lot": ("debts",), "names": ("debts",)}),
    (lotrules.lean, {"form": FORM, "names": ("debts",), "truth": (1, 0)}),
    (lotrules.lot_book, {"form": FORM, "lots": NEVER, "gap": GAP, "side": 1}),
    (lotrules.two_lot_books, {"form": FORM, "lots": NEVER, "lot": ("debts", "earns")}),
    (lotrules.lot_part, {"sheets": TABLE, "lot": ("debts",)}),
    (rowrules.need_rows, {"form": FORM, "value": ALIKE}),
    (rowrules.row_way, {"form": FORM, "rows": ((0, 0), (0, 1), (1, 1)), "lot": ("debts", "earns"), "one": (0, 0), "other": (1, 1)}),
    (rowrules.pieces, {"form": FORM, "rows": ALIKE, "lot": ("debts", "earns")}),
    (rowrules.fibre, {"form": FORM, "rows": ALIKE, "lot": ("debts",), "truth": (0, 1)}),
    (rowrules.split, {"form": FORM, "rows": ALIKE, "lot": ("debts", "earns")}),
    (rowrules.bridges, {"form": FORM, "rows": ALIKE, "lots": EVERY}), (rowrules.whole_lots, {"form": FORM, "rows": ALIKE, "lots": EVERY}),
    (rowrules.row_book, {"form": FORM, "rows": ALIKE, "lots": EVERY, "lot": ("debts", "earns"), "side": -1}),
    (rowrules.two_row_books, {"form": FORM, "rows": ALIKE, "lots": EVERY, "lot": ("debts", "earns")}),
    (asks.need_ask, {"form": FORM, "value": ASK}), (asks.is_ask, {"form": FORM, "value": ASK}),
    (asks.is_given, {"form": FORM, "ask": ASK, "lot": ("debts",), "truth": (0, 1)}),
    (asks.worth_at, {"form": FORM, "ask": ASK, "lot": ("debts",), "truth": (0, 1)}), (asks.answer_by, {"book": BOOK, "ask": ASK}),
    (asks.is_plain, {"ask": ASK}),
    (weighing.weighed, {"sheets": TABLE, "ask": ASK}), (weighing.plain_answer, {"sheets": TABLE, "ask": ASK}),
    (weighing.parts_of_sheets, {"sheets": TABLE, "ask": ASK}), (weighing.answer_by_sheets, {"sheets": TABLE, "ask": ASK}),
    (weighing.is_fair, {"sheets": TABLE}), (weighing.unfair_ask, {"sheets": TABLE}),
    (kept.more_blanks, {"sheet": (0, -1)}), (kept.weights_by, {"form": FORM, "counts": COUNTS}),
    (asktext.ask_text, {"ask": ASK}), (asktext.read_ask, {"form": FORM, "value": "answer debts given is earns 1"}),
    (called.need_called, {"value": CALLED}), (called.is_called, {"value": CALLED}),
    (called.called_sheets, {"book": BOOK, "called": ("debts",)}), (called.uncalled, {"value": CALLED}), (called.is_full, {"value": CALLED}),
    (called.called_weight, {"value": CALLED, "lot": ("debts", "earns"), "sheet": (0, -1)}), (called.book_called, {"value": CALLED}),
    (called.called_share, {"book": BOOK, "called": ("debts",)}),
    (choices.options, {"sheets": TABLE, "ask": ASK}), (choices.open_sheets, {"sheets": TABLE, "ask": ASK}),
    (choices.picks, {"sheets": TABLE, "ask": ASK, "side": 1, "cut": 1}),
    (choices.book_of_picks, {"sheets": TABLE, "ask": ASK, "some": PICKS}),
    (bounds.bounds, {"sheets": TABLE, "ask": ASK}), (bounds.share_bounds, {"sheets": TABLE, "ask": Ask(("answer", "debts"), ("all",))}),
    (bounds.book_at, {"sheets": TABLE, "ask": ASK, "answer": bounds.bounds(TABLE, ASK).most}), (bounds.is_certain, {"sheets": TABLE, "ask": ASK}),
    (bounds.check_bounds, {"sheets": TABLE, "ask": ASK, "value": bounds.bounds(TABLE, ASK)}),
    (counting.doubts, {"tally": TALLY}), (counting.gone, {"tally": TALLY}), (counting.counted, {"tally": OTHER}),
    (counting.next_letter, {"tally": TALLY, "number": 3, "word": (0, 1)}), (counting.sheets_counted, {"tally": OTHER}),
    (cuts.apart_ways, {"chart": CHART, "one": A, "other": D}), (cuts.fewest_cut, {"chart": CHART, "one": A, "other": D}),
    (cuts.check_cut, {"chart": CHART, "one": A, "other": D, "value": (cuts.apart_ways(CHART, A, D), cuts.fewest_cut(CHART, A, D))}),
    (leans.sign, {"value": 1}), (leans.leaned_row, {"many": 3, "strength": (1, 2)}), (leans.coins_along, {"chart": CHART, "way": WAY}),
    (leans.table_along, {"chart": LEANING, "name": "debts", "way": OWN, "lean": -1, "node": C}),
    (leans.tables_along, {"chart": LEANING, "name": "debts", "way": OWN, "lean": -1}),
    (towns.town, {"chart": LEANING, "name": "debts", "way": OWN, "lean": -1}), (towns.towns_by, {"chart": LEANING, "name": "debts", "way": OWN}),
    (towns.two_towns, {"chart": LEANING, "name": "earns"}),
    (towns.town_share, {"form": FORM, "name": "debts", "way": OWN, "lean": 1, "lot": ("debts",), "truth": (0, 1)}),
    (towns.have_other_truths, {"way": WAY}), (towns.parted_at, {"one": BOOK, "other": ONE_BOOK}),
    (towns.check_towns, {"chart": LEANING, "value": TOWNS}),
    (calls.needed_calls, {"chart": LEANING}), (calls.calls_tell, {"chart": LEANING, "called": ("debts",)}),
    (calls.towns_beside, {"chart": LEANING, "called": ("debts",)}), (calls.call_paper, {"chart": LEANING}),
    (calls.check_calls, {"chart": LEANING, "called": ("debts", "earns"), "value": calls.call_paper(LEANING)}),
    (judging.judged, {"chart": LEANING, "sheets": TABLE}), (judging.check_judged, {"chart": LEANING, "sheets": TABLE, "value": JUDGED}),
    (commands.call_line, {"call": ("batch", (("draw", A, C), ("sheet", 0, (0, -1))))}), (commands.read_call, {"value": "all draw a ?a; sheet 0 . 1"}),
    (facts.facts_of, {"slip": SLIP}), (facts.all_facts, {"facts": list(facts.facts_of(SLIP))}),
    (facts.told_by, {"facts": list(facts.facts_of(SLIP)), "word": "told", "question": LEANING}),
    (lotpapers.lots_paper, {"form": FORM, "lots": NEVER}), (lotpapers.check_lots, {"form": FORM, "lots": NEVER, "value": lotpapers.lots_paper(FORM, NEVER)}),
    (meetings.after_meetings, {"tallies": [TALLY, OTHER, TALLY], "meets": [(0, 1), (2, 1)]}), (meetings.heard_from, {"many": 3, "meets": [(0, 1), (2, 1)]}),
    (rowpapers.rows_paper, {"form": FORM, "rows": ALIKE, "lots": EVERY}),
    (rowpapers.check_rows, {"form": FORM, "rows": ALIKE, "lots": EVERY, "value": rowpapers.rows_paper(FORM, ALIKE, EVERY)}),
    (slips.slip_holds, {"value": SLIP}), (texts.form_text, {"form": FORM}), (texts.book_text, {"book": BOOK}), (texts.sheets_text, {"sheets": TABLE}),
    (texts.read_form, {"value": "debts 2 earns 2"}), (texts.read_book, {"value": texts.book_text(BOOK)}),
    (texts.read_sheets, {"value": texts.sheets_text(TABLE)}), (desk.run_lines, {"form": FORM, "lines": LINES}),
    (audit.audit, {"form": FORM, "record": (("told", ("told", True), ()),)}),
]
OUTSIDE = Ask(("answer", "debts"), ("both", ("is", "debts", 0), ("is", "debts", 1)))
ROWS = sheets.gathered_sheets(FORM, (((0, 0), (1, 2)), ((-1, 1), (1, 2))))
GAPPED = sheets.gathered_sheets(FORM, (((0, 0), (1, 2)), ((-1, -1), (1, 2))))
DESK = kept.Kept(FORM)
# Calls that are wrong in several ways, of which the first one is told.
WRONG = [
    (InvalidFraction, 1, fractions.need_fraction, ((2, 0),)), (InvalidForm, 0, forms.need_form, (Form((("Debts", 2), ("debts", 1))),)),
    (InvalidBook, 0, books.need_book, (Book(FORM, (((), (0, 0), (2, 1)), ((), (0, 0), (2, 4)))[::-1]),)),
    (InvalidSheets, 1, sheets.need_sheets, (Sheets(FORM, (((0, 0), (1, 3)), ((-1, 0), (1, 3)), None)),)),
    (InvalidSize, "form", books.mixed_book, (BOOK, Book(Form((("a", 2),)), ()), (3, 1))),
    (NoName, "pets", sheets.struck_book, (sheets.struck_book(BOOK, "debts"), "pets")),
    (Refused, "last", sheets.struck_book, (sheets.struck_book(BOOK, "debts"), "earns")),
    (InvalidChart, (0, 1), charts.need_chart, (Chart(FORM, ((A, B), (A, A), (C, A)), (None,)),)),
    (InvalidChart, (1, 0), charts.need_chart, (Chart(FORM, ((A, B),), ((B, A), None)),)),
    (Refused, "back", charts.with_arrow, (Chart(FORM, ((A, C),), ()), C, A)), (Refused, "there", charts.with_arrow, (CHART, A, B)),
    (InvalidMaker, (0, 0), makers.need_maker, (Maker(CHART, (), ()),)), (InvalidMaker, (1, 0), makers.need_maker, (Maker(CHART, MAKER.coins, ()),)),
    (InvalidSize, "form", meetings.after_meetings, ((TALLY, Tally(Form((("a", 2),)), ())), (None,))),
    (Refused, "lots", onebook.grown_book, (FORM, (((0, 0), (1, 1)),), (((-1, -1), (1, 1)), ((-1, 1), (1, 1))))),
    (InvalidSize, "gap", lotrules.lot_book, (FORM, NEVER, None, None)), (InvalidSize, "side", lotrules.lot_book, (FORM, NEVER, GAP, None)),
    (Refused, "lot", lotrules.two_lot_books, (FORM, EVERY, None)), (Refused, "told", lotrules.two_lot_books, (FORM, EVERY, ("debts",))),
    (Refused, "lots", lotrules.lot_part, (ROWS, ("debts", "earns"))), (Refused, "rows", lotrules.lot_part, (ROWS, ("debts",))),
    (Refused, "lots", rowrules.row_book, (FORM, ALIKE, NEVER, None, None)), (Refused, "lot", rowrules.row_book, (FORM, ALIKE, EVERY, None, None)),
    (Refused, "told", rowrules.row_book, (FORM, ALIKE, EVERY, ("debts",), None)),
    (InvalidSize, "side", rowrules.row_book, (FORM, ALIKE, EVERY, ("debts", "earns"), None)),
    (Refused, "blank", weighing.weighed, (GAPPED, Ask(("number", 1), ("both", ("blank", "debts"), ("not", ("all",)))))),
    (Refused, "lots", weighing.weighed, (GAPPED, OUTSIDE)), (Refused, "rows", weighing.weighed, (ROWS, OUTSIDE)),
    (Refused, "nobody", weighing.weighed, (TABLE, OUTSIDE)), (Refused, "nobody", bounds.book_at, (TABLE, OUTSIDE, (9, 1))),
    (Refused, "worth", bounds.share_bounds, (TABLE, Ask(("number", 2), ("all",)))), (Refused, "nobody", bounds.share_bounds, (TABLE, OUTSIDE)),
    (InvalidSheets, 0, DESK.move, (None, None, None)), (InvalidSheets, 1, DESK.move, ((0, 0), None, None)),
    (InvalidSize, "many", DESK.move, ((0, 0), (0, 0), None)), (Refused, "few", DESK.move, ((0, 0), (0, 0), 1)),
    (NoName, "pets", towns.two_towns, (Chart(FORM, (), ()), "pets")), (Refused, "closed", towns.two_towns, (Chart(FORM, (), ()), "debts")),
    (Refused, "none", study.Study(FORM).judged_now, ()),
]


def holds_a_list(value):
    """Whether a list, or a bool that stands for a number, is in what a function returned."""
    if isinstance(value, (list, dict, set)):
        return True
    if isinstance(value, tuple):
        return any(holds_a_list(one) for one in value)
    return is_package_object(value) and any(holds_a_list(one) for one in vars(value).values())


class Everywhere(unittest.TestCase):
    def test_by_position_and_by_names(self):
        for call, arguments in CALLS:
            with self.subTest(call=call.__name__):
                kept = copy.deepcopy(arguments)
                first = call(**arguments)
                self.assertTrue(same(first, call(*arguments.values())))
                turned = dict(reversed(list(arguments.items())))
                self.assertTrue(same(first, call(**turned)))
                self.assertTrue(same(arguments, kept))

    def test_lists_as_tuples(self):
        for call, arguments in CALLS:
            if any(isinstance(one, list) for one in arguments.values()):
                with self.subTest(call=call.__name__):
                    as_tuples = {name: tuple(one) if isinstance(one, list) else one for name, one in arguments.items()}
                    self.assertTrue(same(call(**arguments), call(**as_tuples)))

    def test_what_is_returned_is_tuples_also_within(self):
        for call, arguments in CALLS:
            with self.subTest(call=call.__name__):
                self.assertFalse(holds_a_list(call(**arguments)))

    def test_need_returns_none_and_is_tells_whether(self):
        for call, arguments in CALLS:
            if call.__name__.startswith("need_"):
                self.assertIsNone(call(**arguments))
            if call.__name__.startswith(("is_", "check_", "free_")):
                self.assertIn(call(**arguments).__class__, (bool,))

    def test_the_same_whatever_was_called_in_between(self):
        first = [call(**arguments) for call, arguments in CALLS]
        order = list(range(len(CALLS)))
        RANDOM.shuffle(order)
        for at in order:
            call, arguments = CALLS[at]
            self.assertTrue(same(first[at], call(**arguments)))

    def test_later_changes_to_an_argument_have_no_effect(self):
        for call, arguments in CALLS:
            if any(isinstance(one, list) for one in arguments.values()):
                mine = {name: list(one) if isinstance(one, list) else one for name, one in arguments.items()}
                found = call(**mine)
                for one in mine.values():
                    if isinstance(one, list):
                        one.clear()
                self.assertTrue(same(found, call(**arguments)))

    def test_every_function_is_called_here(self):
        from test_interface import FUNCTIONS, split
        wanted = {split(one)[0] for told in FUNCTIONS.values() for one in told.split()}
        self.assertEqual({call.__name__ for call, _ in CALLS}, wanted)

    def test_errors_in_their_order(self):
        for error, told, call, values in WRONG:
            with self.subTest(call=call.__name__, told=told):
                with self.assertRaises(error) as held:
                    call(*values)
                self.assertTrue(same(list(vars(held.exception).values()), [told]))

    def test_objects_that_change_by_position_and_by_names(self):
        """What they return are tuples, also within, and later steps do not change it."""
        one, other = study.Study(form=FORM), study.Study(FORM)
        self.assertEqual([one.do(call=("draw", A, C)), other.do(("draw", A, C))], ["done", "done"])
        for sheet in every_sheet(FORM):
            one.do(("sheet", len(one.tally_now()), sheet))
            other.do(call=("sheet", len(other.tally_now()), sheet))
        told = ("chart_now", "tally_now", "sheets_now", "verdict_now", "needed_now", "judged_now", "calls", "depth")
        first = [getattr(one, name)() for name in told]
        self.assertTrue(same(first, [getattr(other, name)() for name in told]))
        self.assertFalse(any(map(holds_a_list, first)))
        one.do(("undo",))
        self.assertTrue(same(first, [getattr(other, name)() for name in told]))
        first, second = desk.Desk(form=FORM), desk.Desk(FORM)
        outcomes = [first.say(line=line) for line in LINES]
        self.assertTrue(same(outcomes, [second.say(line) for line in LINES]))
        self.assertTrue(same((first.said(), first.record()), (second.said(), second.record())))
        self.assertFalse(holds_a_list((tuple(outcomes), first.said(), first.record())))

    def test_equal_arguments_of_another_making(self):
        """Forms, charts and the like that are equal, but not the same objects, lead to equal results."""
        for call, arguments in CALLS:
            self.assertTrue(same(call(**arguments), call(**copy.deepcopy(arguments))))


class Kinds(unittest.TestCase):
    def test_integers_and_numbers(self):
        for value in (0, 1, -1, 10 ** 4000):
            self.assertIs(is_int(value), True)
            self.assertIs(is_number(value), value >= 0)
        for value in (True, False, None, "1", (1,), [1], FORM, 1.0):
            self.assertIs(is_int(value), False)
            self.assertIs(is_number(value), False)

    def test_names(self):
        for value in ("a", "z", "abcdefgh", "debts"):
            self.assertIs(is_name(value), True)
        for value in ("", "abcdefghi", "A", "a1", "a b", "\u00e4", "\u00df", "a\n", None, 1, ("a",), ["a"], FORM):
            self.assertIs(is_name(value), False)

    def test_names_are_of_these_letters_alone(self):
        for code in itertools.chain(range(0x300), range(0x370, 0x400), range(0x2100, 0x2200), range(0xff00, 0xff70)):
            letter = chr(code)
            self.assertIs(is_name(letter), letter in "abcdefghijklmnopqrstuvwxyz")
            self.assertIs(is_name("a" + letter), letter in "abcdefghijklmnopqrstuvwxyz")

    def test_no_length_and_nothing_to_iterate(self):
        papers = [JUDGED, judging.Told((), ()), lotpapers.LotsTold(()), lotpapers.LotsApart(1, 2, 3, 4), rowpapers.RowsTold(())]
        papers += [rowpapers.RowsApart(1, 2, 3, 4, 5), study.Study(FORM), desk.Desk(FORM), kept.Kept(FORM), bounds.bounds(TABLE, ASK)]
        for one in [FORM, BOOK, TABLE, CHART, MAKER, FACTOR, TALLY, ASK, CALLED] + papers:
            for call in (len, iter, list):
                with self.assertRaises(TypeError):
                    call(one)

    def test_equal_to_nothing_of_another_class(self):
        things = [Form(None), Book(None, None), Sheets(None, None), Chart(None, None, None), Maker(None, None, None), FACTOR, TALLY]
        things += [Ask(None, None), CalledSheets(None, None, None), bounds.Bounds(None, None, None, None), judging.Told(None, None)]
        things += [judging.Apart(None, None, None, None), lotpapers.LotsTold(None), lotpapers.LotsApart(None, None, None, None)]
        things += [rowpapers.RowsTold(None), rowpapers.RowsApart(None, None, None, None, None)]
        for one, other in itertools.permutations(things, 2):
            self.assertFalse(one == other)
            self.assertTrue(one != other)


class Limits(unittest.TestCase):
    def test_the_greatest_forms(self):
        form = Form((("a", 4), ("b", 4), ("c", 3), ("d", 2)))
        random = seeded(81)
        chart = random_chart(random, form, 10, 2)
        maker = random_maker(random, chart, False, 6)
        book = makers.book_made(maker)
        self.assertIs(books.is_book(book), True)
        table = sheets.sheets_of(book)
        self.assertIs(weights.check_weights(table, weights.weights(table)), True)
        nodes = all_nodes(form)
        self.assertEqual(summing.summed_needed(maker, tuple(nodes[:3])), summing.margin(book, tuple(nodes[:3])))
        self.assertEqual(len(every_truth(form)), 96)
        self.assertEqual(len(subsets(names(form))), 16)

    def test_long_fractions(self):
        """Shares of sixty figures in tables of sheets, and the long weights that come of them."""
        form = Form((("a", 3), ("b", 3), ("c", 2)))
        random = seeded(82)
        parts = [random.randrange(1, 10 ** 57) for _ in forms.all_sheets(form)]
        shares = [(sheet, fractions.fraction(one, sum(parts))) for sheet, one in zip(forms.all_sheets(form), parts)]
        table = sheets.gathered_sheets(form, shares)
        found = weights.weights(table)
        self.assertIs(weights.check_weights(table, found), True)
        for _, one in found:
            self.assertEqual(fractions.read_fraction(fractions.fraction_text(one)), one)

    def test_two_thousand_long_fractions(self):
        random = seeded(83)
        some = [fractions.fraction(random.randrange(10 ** 60), random.randrange(1, 10 ** 60)) for _ in range(2000)]
        self.assertEqual(fractions.compared(fractions.greatest_of(some), fractions.least_of(some)), 1)
        self.assertEqual(fractions.sign_of(fractions.total_of(some)), 1)
        self.assertEqual(fractions.sign_of(fractions.product_all(some)), 1)


if __name__ == "__main__":
    unittest.main()
