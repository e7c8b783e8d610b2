"""The examples of DOC.md, whole, and those of README.md."""

import doctest
import os
import unittest

TOP = os.path.dirname(os.path.dirname(os.path.abspath(__file__)))

# Fractions, forms, books and sheets
SECTION_3 = r'''
>>> from whyblank.books import Book, part, truth_shares
>>> from whyblank.forms import Form, lots, truths_behind
>>> from whyblank.sheets import sheets_of
>>> from whyblank.texts import sheets_text
>>> form = Form((("debts", 2), ("earns", 2)))
>>> town = Book(form, (((), (0, 0), (3, 8)), ((), (0, 1), (1, 8)), ((), (1, 1), (1, 8)), (("debts",), (0, 1), (1, 8)), (("debts",), (1, 1), (1, 4))))
>>> part(town, ("debts",)), truth_shares(town)
((((0, 1), (1, 8)), ((1, 1), (1, 4))), (((0, 0), (3, 8)), ((0, 1), (1, 4)), ((1, 1), (3, 8))))
>>> sheets_text(sheets_of(town))
'form debts 2 earns 2\n.1 3/8\n00 3/8\n01 1/8\n11 1/8'
>>> lots(form), truths_behind(form, (-1, 1))
(((), ('debts',), ('debts', 'earns'), ('earns',)), ((0, 1), (1, 1)))
'''

# Charts
SECTION_4 = r'''
>>> from whyblank.charts import Chart, groups_of, order_of, order_or_ring, parents, partners
>>> from whyblank.charttext import chart_text, read_chart
>>> from whyblank.forms import Form
>>> form = Form((("debts", 2), ("drink", 3), ("pets", 2)))
>>> chart = Chart(form, ((("a", "debts"), ("b", "drink")), (("a", "drink"), ("a", "debts"))), ((("a", "debts"), ("b", "debts")),))
>>> parents(chart, ("a", "debts")), partners(chart, ("b", "debts")), groups_of(chart), order_of(chart)[:3]
((('a', 'drink'),), (('a', 'debts'),), (('debts', 'drink'), ('pets',)), (('a', 'drink'), ('a', 'debts'), ('a', 'pets')))
>>> chart_text(chart)
'debts 2\ndrink 3\npets 2\ndebts > ?drink\ndrink > debts\ndebts ~ ?debts'
>>> read_chart(chart_text(chart)) == chart, order_or_ring(form, ((("a", "pets"), ("a", "drink")), (("a", "drink"), ("a", "pets"))))[0]
(True, 'ring')
'''

# Ways
SECTION_5 = r'''
>>> from whyblank.charts import Chart
>>> from whyblank.closedlots import closed_lot
>>> from whyblank.cuts import check_cut, fewest_cut
>>> from whyblank.forms import Form
>>> from whyblank.ways import joined_pairs, own_ways, stops_of, way_of
>>> form, to = Form((("debts", 2), ("drink", 3))), ("b", "debts")
>>> chart = Chart(form, ((("a", "debts"), to), (("a", "drink"), to)), ((to, ("b", "drink")),))
>>> own_ways(chart), way_of(chart, "drink"), closed_lot(chart, "debts")
(('debts', 'drink'), (('arrow', ('a', 'drink'), ('b', 'debts')), ('bow', ('b', 'debts'), ('b', 'drink'))), None)
>>> stops_of(way_of(chart, "drink"), ("a", "drink")), closed_lot(Chart(form, chart.arrows, ()), "drink")
((('a', 'drink'), ('b', 'debts'), ('b', 'drink')), (('b', 'debts'),))
>>> cut = fewest_cut(chart, ("a", "drink"), ("b", "drink"))
>>> len(cut), check_cut(chart, ("a", "drink"), ("b", "drink"), ((way_of(chart, "drink"),), cut))
(1, True)
'''

# Makers
SECTION_6 = r'''
>>> from whyblank.charts import Chart
>>> from whyblank.forms import Form
>>> from whyblank.makers import Maker, book_made, person_made, share_made
>>> form = Form((("debts", 2), ("income", 2)))
>>> chart = Chart(form, ((("a", "income"), ("b", "debts")),), ())
>>> half = ((1, 2), (1, 2))
>>> maker = Maker(chart, (), ((half,), (half,), (((3, 4), (1, 4)), ((1, 4), (3, 4))), (half,)))
>>> share_made(maker, ("debts",), (0, 1)), person_made(maker, (1, 1, 2, 0))
((3, 32), (('debts',), (1, 1)))
>>> from whyblank.summing import margin, needed, summed
>>> margin(book_made(maker), (("a", "income"), ("b", "debts")))
(((0, 0), (3, 8)), ((0, 1), (1, 8)), ((1, 0), (1, 8)), ((1, 1), (3, 8)))
>>> summed(maker, (("b", "debts"),), (("b", "income"), ("a", "income"), ("a", "debts"))), needed(chart, (("b", "debts"),))
((((0,), (1, 2)), ((1,), (1, 2))), (('a', 'income'), ('b', 'debts')))
>>> from whyblank.makers import free_given_rest, maker_for
>>> free_given_rest(book_made(maker), ("a", "debts"), ("b", "debts")), maker_for(chart, book_made(maker)) == maker
(True, True)
'''

# Sheets that come in
SECTION_7 = r'''
>>> from whyblank.counting import counted, doubts, next_letter, sheets_counted
>>> from whyblank.forms import Form
>>> from whyblank.meetings import heard_from
>>> from whyblank.tallies import heard, merged, missing_letters, tally_of
>>> from whyblank.texts import sheets_text
>>> form = Form((("debts", 2), ("earns", 2)))
>>> east = tally_of(form, ((7, 0, (0, 1)), (7, 1, (-1, 1)), (3, 0, (0, 0))))
>>> west = tally_of(form, ((7, 0, (0, 1)), (3, 0, (0, -1)), (4, 0, (1, 1)), (5, 2, ())))
>>> both = merged(east, west)
>>> both.rows
((3, 0, ((0, -1), (0, 0))), (4, 0, ((1, 1),)), (5, 2, ((),)), (7, 1, ((-1, 1),)))
>>> doubts(both), counted(both), missing_letters(east, west)
((3,), ((4, (1, 1)), (7, (-1, 1))), ((3, 0, (0, 0)), (7, 1, (-1, 1))))
>>> next_letter(both, 3, (0, 0)), sheets_text(sheets_counted(heard(both, (3, 1, (0, 0)))))
((3, 1, (0, 0)), 'form debts 2 earns 2\n.1 1/3\n00 1/3\n11 1/3')
>>> heard_from(3, ((0, 1), (1, 2)))
((0, 1), (0, 1, 2), (0, 1, 2))
'''

# The one book
SECTION_8 = r'''
>>> from whyblank.charts import Chart
>>> from whyblank.forms import Form
>>> from whyblank.makers import Maker, book_made
>>> from whyblank.sheets import sheets_of
>>> from whyblank.weights import weight
>>> form, half = Form((("debts", 2), ("income", 2))), ((1, 2), (1, 2))
>>> chart = Chart(form, ((("a", "income"), ("b", "debts")),), ())
>>> maker = Maker(chart, (), ((half,), (half,), (((3, 4), (1, 4)), ((1, 4), (3, 4))), (half,)))
>>> came = sheets_of(book_made(maker))
>>> weight(came, (-1, 0)), weight(came, (-1, 1)), weight(came, (1, -1)), weight(came, (-1, -1))
((1, 3), (3, 1), (1, 1), (1, 1))
>>> from whyblank.onebook import one_book, own_blanks
>>> one_book(came) == book_made(maker), own_blanks(book_made(maker))
(True, ())
>>> from whyblank.weights import behind, stretch
>>> behind(came, (-1, 1)), stretch(came, (0, 1)), stretch(came, (0, 0))
((((0, 1), (1, 2)), ((1, 1), (1, 2))), (8, 1), (8, 3))
'''

# Two towns
SECTION_9 = r'''
>>> from whyblank.charts import Chart
>>> from whyblank.forms import Form
>>> from whyblank.makers import book_made
>>> from whyblank.towns import check_towns, have_other_truths, parted_at, town_share, two_towns
>>> from whyblank.ways import way_of
>>> form = Form((("debts", 2), ("drink", 2)))
>>> chart = Chart(form, ((("a", "drink"), ("b", "drink")),), ())
>>> towns, way = two_towns(chart, "drink"), way_of(chart, "drink")
>>> towns[0].tables[1], towns[0].tables[3], towns[1].tables[3]
((((5, 8), (3, 8)),), (((2, 5), (3, 5)), ((2, 3), (1, 3))), (((2, 3), (1, 3)), ((2, 5), (3, 5))))
>>> check_towns(chart, towns), have_other_truths(way), parted_at(book_made(towns[0]), book_made(towns[1]))
(True, True, (('debts', 'drink'), (0, 0)))
>>> [town_share(form, "drink", way, lean, ("drink",), (0, 0)) for lean in (1, -1)]
[(3, 32), (1, 32)]
'''

# Lots that are never left blank
SECTION_10 = r'''
>>> from whyblank.books import part
>>> from whyblank.forms import Form
>>> from whyblank.lotpapers import check_lots, lots_paper
>>> from whyblank.lotrules import gaps, linked, lot_part, told_lots, two_lot_books
>>> from whyblank.sheets import sheets_of
>>> form = Form((("debts", 2), ("earns", 2)))
>>> never = ((), ("debts",), ("debts", "earns"))
>>> gaps(never), told_lots(never), linked(never, ("debts", "earns"), ("debts",))
(((('debts', 'earns'), ('earns',)),), ((), ('debts',)), (('debts', 'earns'),))
>>> one, other = two_lot_books(form, never, ("debts", "earns"))
>>> sheets_of(one) == sheets_of(other), part(one, ("debts", "earns"))[:2], part(other, ("debts", "earns"))[:2]
(True, (((0, 0), (1, 8)), ((0, 1), (1, 8))), (((0, 0), (1, 24)), ((0, 1), (1, 24))))
>>> lot_part(sheets_of(one), ("debts",)) == part(one, ("debts",)), check_lots(form, never, lots_paper(form, never))
(True, True)
'''

# Answers that cannot go together
SECTION_11 = r'''
>>> from whyblank.books import part
>>> from whyblank.forms import Form
>>> from whyblank.rowpapers import check_rows, rows_paper
>>> from whyblank.rowrules import bridges, pieces, row_way, split, two_row_books, whole_lots
>>> from whyblank.sheets import sheets_of
>>> form = Form((("debts", 2), ("earns", 2)))
>>> both = ((), ("debts",), ("debts", "earns"), ("earns",))
>>> alike = ((0, 0), (1, 1))
>>> split(form, alike, ("debts", "earns")), whole_lots(form, alike, both), bridges(form, alike, both)
(((0, 0), (1, 1)), ((), ('debts',), ('earns',)), ((0, 1), (1, 0)))
>>> one, other = two_row_books(form, alike, both, ("debts", "earns"))
>>> part(one, ("debts", "earns")), part(other, ("debts", "earns")), sheets_of(one) == sheets_of(other)
((((0, 0), (3, 16)), ((1, 1), (1, 16))), (((0, 0), (1, 16)), ((1, 1), (3, 16))), True)
>>> three = ((0, 0), (0, 1), (1, 1))
>>> row_way(form, three, ("debts", "earns"), (0, 0), (1, 1)), pieces(form, three, ("debts",))
(((0, 0), (0, 1), (1, 1)), (((0, 0),), ((0, 1), (1, 1))))
>>> check_rows(form, alike, both, rows_paper(form, alike, both)), rows_paper(form, three, both).lots == both
(True, True)
'''

# Asks
SECTION_12 = r'''
>>> from whyblank.asks import Ask, answer_by
>>> from whyblank.charts import Chart
>>> from whyblank.forms import Form
>>> from whyblank.makers import Maker, book_made
>>> form, half = Form((("debts", 2), ("income", 2))), ((1, 2), (1, 2))
>>> chart = Chart(form, ((("a", "income"), ("b", "debts")),), ())
>>> maker = Maker(chart, (), ((half,), (half,), (((3, 4), (1, 4)), ((1, 4), (3, 4))), (half,)))
>>> answer_by(book_made(maker), Ask(("answer", "income"), ("blank", "debts")))
(3, 4)
>>> from whyblank.asktext import ask_text, read_ask
>>> ask_text(Ask(("if", ("is", "debts", 1)), ("not", ("blank", "debts"))))
'if is debts 1 given not blank debts'
>>> read_ask(form, "answer income given all") == Ask(("answer", "income"), ("all",))
True
>>> from whyblank.sheets import sheets_of
>>> from whyblank.weighing import is_fair, plain_answer, weighed
>>> came = sheets_of(book_made(maker))
>>> rich = Ask(("answer", "income"), ("all",))
>>> plain_answer(came, rich), weighed(came, rich), answer_by(book_made(maker), rich), is_fair(came)
((1, 4), (1, 2), (1, 2), False)
'''

# Calls
SECTION_13 = r'''
>>> from whyblank.books import Book
>>> from whyblank.called import book_called, called_share, called_sheets, called_weight
>>> from whyblank.calls import call_paper, calls_tell, check_calls, needed_calls
>>> from whyblank.charts import Chart
>>> from whyblank.forms import Form
>>> form = Form((("pets", 2),))
>>> town = Book(form, (((), (0,), (1, 2)), ((), (1,), (1, 6)), (("pets",), (0,), (1, 12)), (("pets",), (1,), (1, 4))))
>>> book_called(called_sheets(town, ("pets",))) == town, book_called(called_sheets(town, ())) == town
(True, False)
>>> called_weight(called_sheets(town, ()), ("pets",), (-1,)), book_called(called_sheets(town, ())).shares[2:], called_share(town, ("pets",))
((1, 2), ((('pets',), (0,), (1, 4)), (('pets',), (1,), (1, 12))), (1, 3))
>>> chart = Chart(form, ((("a", "pets"), ("b", "pets")),), ())
>>> needed_calls(chart), calls_tell(chart, ()), check_calls(chart, ("pets",), call_paper(chart))
(('pets',), False, True)
'''

# Kept weights
SECTION_14 = r'''
>>> from whyblank.asks import Ask
>>> from whyblank.forms import Form
>>> from whyblank.kept import Kept, more_blanks
>>> desk = Kept(Form((("debts", 2),)))
>>> desk.put((0,), 3), desk.put((1,), 1), desk.put((-1,), 2), desk.weights(), desk.last(), desk.done()
(None, None, None, (((-1,), (1, 2)),), ((-1,),), 5)
>>> desk.answer_now(Ask(("answer", "debts"), ("all",))), desk.undo(), desk.weights(), more_blanks((0, -1, 1))
((1, 4), True, (), ((-1, -1, -1), (-1, -1, 1), (0, -1, -1), (0, -1, 1)))
'''

# Without any reasons
SECTION_15 = r'''
>>> from whyblank.asks import Ask, answer_by
>>> from whyblank.bounds import book_at, bounds, check_bounds, is_certain, share_bounds
>>> from whyblank.choices import open_sheets, options, picks
>>> from whyblank.forms import Form
>>> from whyblank.sheets import gathered_sheets, sheets_of
>>> form = Form((("debts", 2), ("earns", 2)))
>>> back = gathered_sheets(form, (((0, 0), (3, 8)), ((0, 1), (1, 8)), ((1, 1), (1, 8)), ((-1, 1), (3, 8))))
>>> owes = Ask(("answer", "debts"), ("is", "earns", 1))
>>> options(back, owes), open_sheets(back, owes)
((((-1, 1), (0, 1)), ((0, 0), (None,)), ((0, 1), (0,)), ((1, 1), (1,))), ((-1, 1),))
>>> found = bounds(back, owes)
>>> found.least, found.most, share_bounds(back, owes), is_certain(back, owes)
((1, 5), (4, 5), ((1, 5), (4, 5)), False)
>>> answer_by(book_at(back, owes, (1, 2)), owes), sheets_of(found.high) == back, check_bounds(back, owes, found)
((1, 2), True, True)
>>> picks(back, owes, 1, 1)
(((-1, 1), 1), ((0, 0), None), ((0, 1), 0), ((1, 1), 1))
'''

# Studies
SECTION_16 = r'''
>>> from whyblank.audit import audit
>>> from whyblank.desk import Desk, run_lines
>>> from whyblank.forms import Form
>>> run_lines(Form((("debts", 2),)), ("all sheet 0 0; sheet 1 1; sheet 2 .; sheet 3 .", "told", "draw debts ?debts", "needed", "book", "undo", "book"))
(('did', 'done'), ('told', True), ('did', 'done'), ('told', ('debts',)), ('refused', 'apart'), ('did', 'done'), ('told', 'form debts 2\n- 0 1/4\n- 1 1/4\ndebts 0 1/4\ndebts 1 1/4'))
>>> desk = Desk(Form((("debts", 2),)))
>>> desk.say("bow debts ?debts"), desk.say("told"), [row[:2] for row in desk.record()]
(('did', 'done'), ('told', False), [('bow debts ?debts', ('did', 'done')), ('told', ('told', False))])
>>> audit(Form((("debts", 2),)), desk.record()), audit(Form((("debts", 2),)), (("told", ("told", False), ()),))
(None, 0)
'''

EXAMPLES = [
    ("3. Fractions, forms, books and sheets", SECTION_3),
    ("4. Charts", SECTION_4),
    ("5. Ways", SECTION_5),
    ("6. Makers", SECTION_6),
    ("7. Sheets that come in", SECTION_7),
    ("8. The one book", SECTION_8),
    ("9. Two towns", SECTION_9),
    ("10. Lots that are never left blank", SECTION_10),
    ("11. Answers that cannot go together", SECTION_11),
    ("12. Asks", SECTION_12),
    ("13. Calls", SECTION_13),
    ("14. Kept weights", SECTION_14),
    ("15. Without any reasons", SECTION_15),
    ("16. Studies", SECTION_16),
]


class Examples(unittest.TestCase):
    def right(self, name, text):
        test = doctest.DocTestParser().get_doctest(text, {}, name, name, 0)
        self.assertGreater(len(test.examples), 0)
        told = []
        found = doctest.DocTestRunner(verbose=False).run(test, out=told.append)
        self.assertEqual(found.failed, 0, "".join(told))

    def test_examples_of_the_document(self):
        for name, text in EXAMPLES:
            with self.subTest(name=name):
                self.right(name, text)

    def test_examples_of_the_readme(self):
        with open(os.path.join(TOP, "README.md")) as held:
            self.right("README", held.read())


if __name__ == "__main__":
    unittest.main()
