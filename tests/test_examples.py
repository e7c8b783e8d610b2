"""The examples of DOC.md, as far as they speak of the modules that are built, and those of README.md."""

import doctest
import os
import unittest

TOP = os.path.dirname(os.path.dirname(os.path.abspath(__file__)))
BOOKS = '''
>>> from whyblank.books import Book, part, truth_shares
>>> from whyblank.forms import Form, lots, truths_behind
>>> from whyblank.sheets import sheets_of
>>> form = Form((("debts", 2), ("earns", 2)))
>>> town = Book(form, (((), (0, 0), (3, 8)), ((), (0, 1), (1, 8)), ((), (1, 1), (1, 8)), (("debts",), (0, 1), (1, 8)), (("debts",), (1, 1), (1, 4))))
>>> part(town, ("debts",)), truth_shares(town)
((((0, 1), (1, 8)), ((1, 1), (1, 4))), (((0, 0), (3, 8)), ((0, 1), (1, 4)), ((1, 1), (3, 8))))
>>> sheets_of(town).shares
(((-1, 1), (3, 8)), ((0, 0), (3, 8)), ((0, 1), (1, 8)), ((1, 1), (1, 8)))
>>> lots(form), truths_behind(form, (-1, 1))
(((), ('debts',), ('debts', 'earns'), ('earns',)), ((0, 1), (1, 1)))
'''
CHARTS = '''
>>> from whyblank.charts import Chart, groups_of, order_of, order_or_ring, parents, partners
>>> from whyblank.charttext import chart_text, read_chart
>>> from whyblank.forms import Form
>>> form = Form((("debts", 2), ("drink", 3), ("pets", 2)))
>>> chart = Chart(form, ((("a", "debts"), ("b", "drink")), (("a", "drink"), ("a", "debts"))), ((("a", "debts"), ("b", "debts")),))
>>> parents(chart, ("a", "debts")), partners(chart, ("b", "debts")), groups_of(chart), order_of(chart)[:3]
((('a', 'drink'),), (('a', 'debts'),), (('debts', 'drink'), ('pets',)), (('a', 'drink'), ('a', 'debts'), ('a', 'pets')))
>>> chart_text(chart)
'debts 2\\ndrink 3\\npets 2\\ndebts > ?drink\\ndrink > debts\\ndebts ~ ?debts'
>>> read_chart(chart_text(chart)) == chart, order_or_ring(form, ((("a", "pets"), ("a", "drink")), (("a", "drink"), ("a", "pets"))))[0]
(True, 'ring')
'''
WAYS = '''
>>> from whyblank.charts import Chart
>>> from whyblank.closedlots import closed_lot
>>> from whyblank.forms import Form
>>> from whyblank.ways import joined_pairs, own_ways, stops_of, way_of
>>> form, to = Form((("debts", 2), ("drink", 3))), ("b", "debts")
>>> chart = Chart(form, ((("a", "debts"), to), (("a", "drink"), to)), ((to, ("b", "drink")),))
>>> own_ways(chart), way_of(chart, "drink"), closed_lot(chart, "debts")
(('debts', 'drink'), (('arrow', ('a', 'drink'), ('b', 'debts')), ('bow', ('b', 'debts'), ('b', 'drink'))), None)
>>> stops_of(way_of(chart, "drink"), ("a", "drink")), closed_lot(Chart(form, chart.arrows, ()), "drink")
((('a', 'drink'), ('b', 'debts'), ('b', 'drink')), (('b', 'debts'),))
'''
MAKERS = '''
>>> from whyblank.charts import Chart
>>> from whyblank.forms import Form
>>> from whyblank.makers import Maker, book_made, person_made, share_made
>>> form = Form((("debts", 2), ("income", 2)))
>>> chart = Chart(form, ((("a", "income"), ("b", "debts")),), ())
>>> half = ((1, 2), (1, 2))
>>> maker = Maker(chart, (), ((half,), (half,), (((3, 4), (1, 4)), ((1, 4), (3, 4))), (half,)))
>>> share_made(maker, ("debts",), (0, 1)), person_made(maker, (1, 1, 2, 0))
((3, 32), (('debts',), (1, 1)))
>>> from whyblank.summing import margin, needed, summed
>>> margin(book_made(maker), (("a", "income"), ("b", "debts")))
(((0, 0), (3, 8)), ((0, 1), (1, 8)), ((1, 0), (1, 8)), ((1, 1), (3, 8)))
>>> summed(maker, (("b", "debts"),), (("b", "income"), ("a", "income"), ("a", "debts"))), needed(chart, (("b", "debts"),))
((((0,), (1, 2)), ((1,), (1, 2))), (('a', 'income'), ('b', 'debts')))
>>> from whyblank.makers import free_given_rest, maker_for
>>> free_given_rest(book_made(maker), ("a", "debts"), ("b", "debts")), maker_for(chart, book_made(maker)) == maker
(True, True)
'''
TALLIES = '''
>>> from whyblank.forms import Form
>>> from whyblank.tallies import heard, merged, missing_letters, tally_of
>>> form = Form((("debts", 2), ("earns", 2)))
>>> east = tally_of(form, ((7, 0, (0, 1)), (7, 1, (-1, 1)), (3, 0, (0, 0))))
>>> west = tally_of(form, ((7, 0, (0, 1)), (3, 0, (0, -1)), (4, 0, (1, 1)), (5, 2, ())))
>>> both = merged(east, west)
>>> both.rows
((3, 0, ((0, -1), (0, 0))), (4, 0, ((1, 1),)), (5, 2, ((),)), (7, 1, ((-1, 1),)))
>>> missing_letters(east, west)
((3, 0, (0, 0)), (7, 1, (-1, 1)))
>>> heard(both, (3, 1, (0, 0))).rows[0]
(3, 1, ((0, 0),))
'''
WEIGHTS = '''
>>> from whyblank.charts import Chart
>>> from whyblank.forms import Form
>>> from whyblank.makers import Maker, book_made
>>> from whyblank.sheets import sheets_of
>>> from whyblank.weights import weight
>>> form, half = Form((("debts", 2), ("income", 2))), ((1, 2), (1, 2))
>>> chart = Chart(form, ((("a", "income"), ("b", "debts")),), ())
>>> maker = Maker(chart, (), ((half,), (half,), (((3, 4), (1, 4)), ((1, 4), (3, 4))), (half,)))
>>> came = sheets_of(book_made(maker))
>>> weight(came, (-1, 0)), weight(came, (-1, 1)), weight(came, (1, -1)), weight(came, (-1, -1))
((1, 3), (3, 1), (1, 1), (1, 1))
>>> from whyblank.weights import behind, stretch
>>> behind(came, (-1, 1)), stretch(came, (0, 1)), stretch(came, (0, 0))
((((0, 1), (1, 2)), ((1, 1), (1, 2))), (8, 1), (8, 3))
'''


class Examples(unittest.TestCase):
    def right(self, name, text):
        test = doctest.DocTestParser().get_doctest(text, {}, name, name, 0)
        self.assertGreater(len(test.examples), 0)
        told = []
        found = doctest.DocTestRunner(verbose=False).run(test, out=told.append)
        self.assertEqual(found.failed, 0, "".join(told))

    def test_examples_of_the_document(self):
        for name, text in (("books", BOOKS), ("charts", CHARTS), ("ways", WAYS), ("makers", MAKERS), ("tallies", TALLIES), ("weights", WEIGHTS)):
            with self.subTest(name=name):
                self.right(name, text)

    def test_examples_of_the_readme(self):
        with open(os.path.join(TOP, "README.md")) as held:
            self.right("README", held.read())


if __name__ == "__main__":
    unittest.main()
