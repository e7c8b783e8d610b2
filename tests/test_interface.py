"""The interface at the end of DOC.md: names, arguments, and which file defines what."""

import importlib
import inspect
import unittest

FUNCTIONS = {
    "fractions": """
        need_fraction(value) is_fraction(value) fraction(top,bottom) whole(number) plus(one,other) minus(one,other)
        times(one,other) over(one,other) compared(one,other) sign_of(one) total_of(some) product_all(some) least_of(some)
        greatest_of(some) fraction_text(one) read_fraction(value)
    """,
    "forms": """
        need_form(value) is_form(value) names_of(form) place_of(form,name) answers_of(form,name) is_truth(form,value)
        is_sheet(form,value) is_lot(form,value) truths(form) all_sheets(form) lots_within(lot) lots(form)
        without_names(lot,names) sheet_of(form,lot,truth) lot_of(form,sheet) truths_behind(form,sheet)
    """,
    "books": """
        need_book(value) is_book(value) gathered_book(form,shares) share_of(book,lot,truth) part(book,lot) lots_in(book)
        lot_shares(book) truth_shares(book) mixed_book(one,other,level)
    """,
    "sheets": """
        need_sheets(value) is_sheets(value) gathered_sheets(form,shares) sheet_share(sheets,sheet) sheets_of(book)
        blank_share(sheets,name) struck_book(book,name) struck_sheets(sheets,name)
    """,
    "charts": """
        nodes_of(form) need_chart(value) is_chart(value) parents(chart,node) children(chart,node) partners(chart,node)
        led_from(chart,nodes) led_to(chart,nodes) order_of(chart) order_or_ring(form,arrows)
        check_order_or_ring(form,arrows,value) with_arrow(chart,start,end) with_bow(chart,one,other)
        chart_part(chart,names) groups_of(chart)
    """,
    "charttext": "chart_text(chart) read_chart(value)",
    "ways": """
        stretches_of(chart) without(chart,stretches) stops_of(way,one) need_way(chart,one,other,value)
        is_way(chart,one,other,value) turned_way(way) ways_between(chart,one,other) way_between(chart,one,other)
        way_of(chart,name) own_ways(chart) joined_pairs(chart)
    """,
    "closedlots": """
        is_closed(chart,one,other,value) closed_between(chart,one,other) closed_lot(chart,name)
        check_closed(chart,name,value)
    """,
    "makers": """
        values_of(form,node) feeders(chart,node) choices(chart,coins,node) need_maker(value) is_maker(value)
        even_maker(chart) is_sure(maker) share_made(maker,lot,truth) book_made(maker) person_made(maker,draws)
        free_given_rest(book,one,other) maker_for(chart,book)
    """,
    "summing": """
        margin(book,nodes) factors_of(maker) product_of(one,other) summed_out(factor,thing) summed(maker,nodes,order)
        needed(chart,nodes) summed_needed(maker,nodes)
    """,
    "tallies": """
        need_letter(form,value) need_tally(value) is_tally(value) tally_of(form,letters) heard(tally,letter)
        merged(one,other) missing_letters(one,other)
    """,
    "weights": """
        lots_that_come(sheets) truths_that_come(sheets) is_every(sheets) why_not_grown(sheets) weight(sheets,sheet)
        weights(sheets) check_weights(sheets,value) behind(sheets,sheet) stretch(sheets,truth)
    """,
    "onebook": """
        is_free(book,name) own_blanks(book) is_grown(book) one_book(sheets) check_book(sheets,value) interplay(book,lot,truth)
        grown_book(form,fulls,weights)
    """,
    "lotrules": """
        need_family(form,value) gaps(lots) closed_over(lots) told_lots(lots) closed_families(form) linked(lots,lot,names)
        lean(form,names,truth) lot_book(form,lots,gap,side) two_lot_books(form,lots,lot) lot_part(sheets,lot)
    """,
    "rowrules": """
        need_rows(form,value) row_way(form,rows,lot,one,other) pieces(form,rows,lot) fibre(form,rows,lot,truth)
        split(form,rows,lot) bridges(form,rows,lots) whole_lots(form,rows,lots) row_book(form,rows,lots,lot,side)
        two_row_books(form,rows,lots,lot)
    """,
    "asks": """
        need_ask(form,value) is_ask(form,value) is_given(form,ask,lot,truth) worth_at(form,ask,lot,truth) answer_by(book,ask)
        is_plain(ask)
    """,
    "weighing": """
        weighed(sheets,ask) plain_answer(sheets,ask) parts_of_sheets(sheets,ask) answer_by_sheets(sheets,ask) is_fair(sheets)
        unfair_ask(sheets)
    """,
    "kept": "more_blanks(sheet) weights_by(form,counts)",
    "asktext": "ask_text(ask) read_ask(form,value)",
    "called": """
        need_called(value) is_called(value) called_sheets(book,called) uncalled(value) is_full(value)
        called_weight(value,lot,sheet) book_called(value) called_share(book,called)
    """,
    "choices": "options(sheets,ask) open_sheets(sheets,ask) picks(sheets,ask,side,cut) book_of_picks(sheets,ask,some)",
    "bounds": """
        bounds(sheets,ask) share_bounds(sheets,ask) book_at(sheets,ask,answer) is_certain(sheets,ask)
        check_bounds(sheets,ask,value)
    """,
    "counting": "doubts(tally) gone(tally) counted(tally) next_letter(tally,number,word) sheets_counted(tally)",
    "cuts": "apart_ways(chart,one,other) fewest_cut(chart,one,other) check_cut(chart,one,other,value)",
    "leans": """
        sign(value) leaned_row(many,strength) coins_along(chart,way) table_along(chart,name,way,lean,node)
        tables_along(chart,name,way,lean)
    """,
    "towns": """
        town(chart,name,way,lean) towns_by(chart,name,way) two_towns(chart,name) town_share(form,name,way,lean,lot,truth)
        have_other_truths(way) parted_at(one,other) check_towns(chart,value)
    """,
    "calls": """
        needed_calls(chart) calls_tell(chart,called) towns_beside(chart,called) call_paper(chart)
        check_calls(chart,called,value)
    """,
    "judging": "judged(chart,sheets) check_judged(chart,sheets,value)",
    "study": "",
    "commands": "call_line(call) read_call(value)",
    "facts": "facts_of(slip) all_facts(facts) told_by(facts,word,question)",
    "lotpapers": "lots_paper(form,lots) check_lots(form,lots,value)",
    "meetings": "after_meetings(tallies,meets) heard_from(many,meets)",
    "rowpapers": "rows_paper(form,rows,lots) check_rows(form,rows,lots,value)",
    "slips": "slip_holds(value)",
    "texts": """
        form_text(form) book_text(book) sheets_text(sheets) read_form(value) read_book(value) read_sheets(value)
    """,
    "desk": "run_lines(form,lines)",
    "audit": "audit(form,record)",
}
CLASSES = {
    "forms": "Form(questions)",
    "books": "Book(form,shares)",
    "sheets": "Sheets(form,shares)",
    "charts": "Chart(form,arrows,bows)",
    "makers": "Maker(chart,coins,tables)",
    "summing": "Factor(things,sizes,shares)",
    "tallies": "Tally(form,rows)",
    "asks": "Ask(worth,given)",
    "called": "CalledSheets(form,called,shares)",
    "bounds": "Bounds(least,most,low,high)",
    "judging": "Told(closed,book) Apart(name,way,one,other)",
    "lotpapers": "LotsTold(lots) LotsApart(lot,lesser,one,other)",
    "rowpapers": "RowsTold(lots) RowsApart(lot,one,other,first,second)",
}
# Objects that change, made of a form, with their methods.
MUTABLE = {
    "kept": ("Kept", """
        put(sheet,many) take(sheet,many) move(sheet,other,many) counts() whole() weights() weight_now(sheet) last() done()
        table() book_now() answer_now(ask) undo() redo() depth() twin()
    """),
    "study": ("Study", """
        do(call) chart_now() tally_now() sheets_now() verdict_now() needed_now() judged_now() calls() depth() twin()
    """),
    "desk": ("Desk", "say(line) said() record()"),
}
ERRORS = """
    InvalidFraction(at) InvalidForm(at) InvalidBook(at) InvalidSheets(at) InvalidChart(at) InvalidMaker(at) InvalidWay(at)
    InvalidAsk(at) InvalidText(at) InvalidSize(word) InvalidCommand() Refused(word) NoName(name)
"""


def split(told):
    """The name and the parameters of what is told as name(first,second)."""
    name, _, rest = told.partition("(")
    return name, [one for one in rest.rstrip(")").split(",") if one]


class Interface(unittest.TestCase):
    def parameters(self, call, wanted):
        found = list(inspect.signature(call).parameters.values())
        self.assertEqual([one.name for one in found], wanted, call)
        for one in found:
            self.assertIs(one.kind, inspect.Parameter.POSITIONAL_OR_KEYWORD)
            self.assertIs(one.default, inspect.Parameter.empty)

    def test_functions(self):
        for file, told in FUNCTIONS.items():
            module = importlib.import_module("whyblank." + file)
            for one in told.split():
                name, wanted = split(one)
                call = getattr(module, name)
                self.assertTrue(inspect.isfunction(call), name)
                self.assertEqual((call.__module__, call.__name__), ("whyblank." + file, name))
                self.parameters(call, wanted)

    def test_classes(self):
        for file, some in CLASSES.items():
            for told in some.split():
                name, wanted = split(told)
                made = getattr(importlib.import_module("whyblank." + file), name)
                self.assertTrue(inspect.isclass(made))
                self.assertEqual((made.__module__, made.__name__, made.__bases__), ("whyblank." + file, name, (object,)))
                self.parameters(made, wanted)
                self.assertIn("__eq__", vars(made))
                self.assertIn("__init__", vars(made))
                self.assertEqual(sorted(vars(made(*wanted))), sorted(wanted))

    def test_objects_that_change(self):
        form = importlib.import_module("whyblank.forms").Form((("a", 2),))
        for file, (called, methods) in MUTABLE.items():
            made = getattr(importlib.import_module("whyblank." + file), called)
            self.assertEqual((made.__module__, made.__name__, made.__bases__), ("whyblank." + file, called, (object,)))
            self.parameters(made, ["form"])
            for told in methods.split():
                name, wanted = split(told)
                self.assertTrue(inspect.isfunction(vars(made)[name]), name)
                self.parameters(vars(made)[name], ["self"] + wanted)
            plain = [name for name in vars(made(form)) if not name.startswith("_")]
            self.assertEqual(plain, ["form"] if called == "Kept" else [])
            self.assertNotIn("__eq__", vars(made))

    def test_every_file_of_the_interface(self):
        """All modules that the document lists are told here."""
        files = set(FUNCTIONS) | set(CLASSES) | set(MUTABLE) | {"errors"}
        self.assertEqual(len(files), 39)
        for file in files:
            importlib.import_module("whyblank." + file)

    def test_errors(self):
        module = importlib.import_module("whyblank.errors")
        for told in ERRORS.split():
            name, wanted = split(told)
            made = getattr(module, name)
            self.assertEqual((made.__module__, made.__name__), ("whyblank.errors", name))
            self.parameters(made, wanted)
            self.assertEqual(sorted(vars(made(*wanted))), sorted(wanted))

    def test_constants(self):
        module = importlib.import_module("whyblank.fractions")
        self.assertEqual((module.ZERO, module.ONE, module.HALF), ((0, 1), (1, 1), (1, 2)))


if __name__ == "__main__":
    unittest.main()
