"""Points [43] and [44]: coins and tables that lean a blank to its own answer."""

import itertools
import unittest
from fractions import Fraction

from checks import Case
from helpers import FORM, WIDE, all_nodes, every_truth, frac, names, pair_of, plain_own_blanks, plain_sheets, random_chart, same, seeded, subsets
from test_makers import fed_by, many_values
from whyblank.books import share_of
from whyblank.charts import Chart
from whyblank.forms import Form
from whyblank.leans import coins_along, leaned_row, sign, table_along, tables_along
from whyblank.makers import Maker, book_made, is_maker, is_sure
from whyblank.ways import stops_of, ways_between

FOUR = Form((("a", 2), ("b", 3), ("c", 2), ("d", 4)))
HALF = ((1, 2), (1, 2))
SIGNS = {0: 1, 1: -1}


def plain_row(many, strength):
    return tuple(pair_of(Fraction(1, many) * (1 + Fraction(strength) * SIGNS.get(value, 0))) for value in range(many))


def plain_table(chart, name, way, lean, node):
    """The table of a node, told row by row as the document does."""
    stops, fed = stops_of(way, ("a", name)), fed_by(chart, node)
    sides = [2 if ("bow",) + bow in way else 1 for bow in chart.bows]
    sizes = [sides[chart.bows.index(one)] if one in chart.bows else many_values(chart.form, one) for one in fed]
    inner, many = len(way) - 1, many_values(chart.form, node)
    rows = []
    for choice in itertools.product(*map(range, sizes)):
        shown = {("arrow", one, node) if one in all_nodes(chart.form) else ("bow",) + one: value for one, value in zip(fed, choice)}
        if node not in stops:
            rows.append(plain_row(many, 0))
        elif node in stops[1:-1]:
            at = stops.index(node)
            come, onward = SIGNS.get(shown[way[at - 1]], 0), shown[way[at]]
            factor = {0: 0, 1: lean}[onward] if at == inner else SIGNS.get(onward, 0)
            rows.append(plain_row(many, Fraction(come * factor, 2)))
        elif node == stops[0] and inner:
            rows.append(plain_row(many, Fraction(SIGNS[shown[way[0]]], 2) if way[0][0] == "bow" else 0))
        elif node == stops[0]:
            rows.append(plain_row(many, Fraction(lean, 4) if way[0][0] == "arrow" else Fraction(lean * shown[way[0]], 2)))
        elif way[-1][0] == "bow":
            rows.append({0: HALF, 1: ((0, 1), (1, 1))}[shown[way[-1]]])
        elif inner:
            rows.append(HALF)
        else:
            s = Fraction(lean * SIGNS.get(shown[way[-1]], 0), 2)
            blank = (1 + s) / (2 + s)
            rows.append((pair_of(1 - blank), pair_of(blank)))
    return tuple(rows)


def plain_coins(chart, way):
    return tuple(HALF if ("bow",) + bow in way else ((1, 1),) for bow in chart.bows)


def own_ways_of(chart):
    return [(name, way) for name in names(chart.form) for way in ways_between(chart, ("a", name), ("b", name)) if len(way) <= 5]


def cases(number, many):
    """Charts with an own way of a question, of all kinds."""
    random = seeded(number)
    tried = 0
    while tried < many:
        form = random.choice([Form((("a", 3),)), FORM, WIDE, Form((("a", 3), ("b", 2)))])
        chart = random_chart(random, form, random.randrange(6), random.randrange(4))
        ways = own_ways_of(chart)
        if ways:
            tried += 1
            name, way = random.choice(ways)
            yield chart, name, way


class Signs(Case):
    def test_sign(self):
        for value, expected in ((0, 1), (1, -1), (2, 0), (3, 0), (8, 0), (10 ** 30, 0)):
            self.assertTrue(same(sign(value), expected))
        for many in range(2, 10):
            self.assertEqual(sum(sign(value) for value in range(many)), 0)
        self.assertEqual(sign(value=1), -1)

    def test_leaned_rows(self):
        for many in range(2, 10):
            for strength in ((0, 1), (1, 1), (-1, 1), (1, 2), (-1, 3), (10 ** 50 - 1, 10 ** 50)):
                found = leaned_row(many, strength)
                self.assertTrue(same(found, plain_row(many, frac(strength))))
                self.assertEqual(sum(map(frac, found)), 1)
        self.assertEqual(leaned_row(2, (1, 1)), ((1, 1), (0, 1)))
        self.assertEqual(leaned_row(2, (-1, 1)), ((0, 1), (1, 1)))
        self.assertEqual(leaned_row(strength=(1, 2), many=4), ((3, 8), (1, 8), (1, 4), (1, 4)))


class Along(Case):
    def agrees(self, chart, name, way):
        for lean in (1, -1):
            self.assertTrue(same(coins_along(chart, way), plain_coins(chart, way)))
            expected = tuple(plain_table(chart, name, way, lean, node) for node in all_nodes(chart.form))
            self.assertTrue(same(tables_along(chart, name, way, lean), expected))
            for node, table in zip(all_nodes(chart.form), expected):
                self.assertTrue(same(table_along(chart, name, way, lean, node), table))
                for row in table:
                    self.assertEqual(sum(map(frac, row)), 1)
            self.assertIs(is_maker(Maker(chart, coins_along(chart, way), tables_along(chart, name, way, lean))), True)

    def test_word_by_word(self):
        kinds = set()
        for chart, name, way in cases(260, 150):
            self.agrees(chart, name, way)
            stops = stops_of(way, ("a", name))
            kinds.add((way[0][0], way[-1][0], len(way) > 1, any(node[0] == "a" for node in stops[1:-1]), any(node[0] == "b" for node in stops[1:-1])))
        self.assertGreater(len(kinds), 8)

    def test_by_names(self):
        chart = Chart(FORM, ((("a", "debts"), ("b", "debts")),), ())
        way = (("arrow", ("a", "debts"), ("b", "debts")),)
        self.assertEqual(coins_along(way=way, chart=chart), ())
        self.assertEqual(tables_along(lean=1, way=way, name="debts", chart=chart)[0], (((5, 8), (3, 8)),))
        self.assertEqual(table_along(node=("b", "debts"), lean=1, way=way, name="debts", chart=chart), (((2, 5), (3, 5)), ((2, 3), (1, 3))))
        self.assertEqual(table_along(chart, "debts", way, -1, ("b", "debts")), (((2, 3), (1, 3)), ((2, 5), (3, 5))))

    def test_one_arrow_with_more_answers(self):
        form = Form((("a", 4),))
        way = (("arrow", ("a", "a"), ("b", "a")),)
        chart = Chart(form, ((("a", "a"), ("b", "a")),), ())
        self.agrees(chart, "a", way)
        self.assertEqual(table_along(chart, "a", way, 1, ("b", "a"))[2:], (HALF, HALF))
        self.assertEqual(table_along(chart, "a", way, 1, ("a", "a")), (((5, 16), (3, 16), (1, 4), (1, 4)),))

    def test_one_bow(self):
        form = Form((("a", 3),))
        chart = Chart(form, ((("a", "a"), ("b", "a")),), ((("a", "a"), ("b", "a")),))
        way = (("bow", ("a", "a"), ("b", "a")),)
        self.agrees(chart, "a", way)
        self.assertEqual(coins_along(chart, way), (HALF,))
        self.assertEqual(table_along(chart, "a", way, -1, ("a", "a")), (((1, 3),) * 3, ((1, 6), (1, 2), (1, 3))))
        self.assertEqual(table_along(chart, "a", way, -1, ("b", "a"))[:2], (HALF, ((0, 1), (1, 1))))
        self.agrees(chart, "a", (("arrow", ("a", "a"), ("b", "a")),))

    def test_long_ways(self):
        a, b, c, d = [("a", letter) for letter in "abcd"]
        p, q, r, s = [("b", letter) for letter in "abcd"]
        told = [
            (((a, b),), ((b, c), (c, d), (d, q), (p, q)), 5), ((), ((a, b), (b, q), (p, q)), 3), (((a, q), (p, r)), ((q, s), (r, s)), 4),
            (((a, q), (p, q)), (), 2), (((a, b),), ((b, p),), 2), (((p, q),), ((a, q),), 2), (((a, r), (b, r)), ((b, r), (p, r)), 2),
        ]
        for arrows, bows, many in told:
            chart = Chart(FOUR, tuple(sorted(arrows)), tuple(sorted(tuple(sorted(bow)) for bow in bows)))
            ways = [way for name, way in own_ways_of(chart) if name == "a" and len(way) == many]
            self.assertTrue(ways, (arrows, bows))
            for way in ways:
                self.agrees(chart, "a", way)

    def test_other_coins_have_one_side(self):
        chart = Chart(FORM, ((("a", "debts"), ("b", "debts")),), ((("a", "debts"), ("a", "earns")), (("b", "debts"), ("b", "earns"))))
        way = (("arrow", ("a", "debts"), ("b", "debts")),)
        self.assertTrue(same(coins_along(chart, way), (((1, 1),), ((1, 1),))))
        self.agrees(chart, "debts", way)


class WhatTheyMake(Case):
    def made(self, chart, name, way, lean):
        return book_made(Maker(chart, coins_along(chart, way), tables_along(chart, name, way, lean)))

    def test_two_unlike_books_with_the_same_sheets(self):
        for chart, name, way in cases(261, 40):
            one, other = self.made(chart, name, way, 1), self.made(chart, name, way, -1)
            self.assertNotEqual(one, other)
            self.assertTrue(same(plain_sheets(one), plain_sheets(other)))
            every = 1
            for _, many in chart.form.questions:
                every *= many + 1
            self.assertEqual(len(plain_sheets(one).shares), every)
            self.assertIn(name, plain_own_blanks(one) + plain_own_blanks(other))
            if way[-1][0] == "arrow":
                self.assertIs(is_sure(Maker(chart, coins_along(chart, way), tables_along(chart, name, way, 1))), True)

    def test_shares_by_signs_alone(self):
        """Shares as signs tell them, for some of the ways."""
        for chart, name, way in cases(262, 25):
            stops = stops_of(way, ("a", name))
            for lean in (1, -1):
                book = self.made(chart, name, way, lean)
                for lot in subsets(names(chart.form)):
                    for truth in every_truth(chart.form):
                        share = Fraction(1)
                        for other, many in chart.form.questions:
                            share /= many if other == name else 2 * many
                        values = dict(zip(all_nodes(chart.form), truth + tuple(int(one in lot) for one in names(chart.form))))
                        s = Fraction(lean if name in lot else 0)
                        for node in stops[:-1]:
                            s *= SIGNS.get(values[node], 0)
                        s /= 2 ** max(1, len(stops) - 2 + (way[0][0] == "bow"))
                        if way[-1][0] == "arrow":
                            share *= (1 + s) / 2
                        else:
                            share *= Fraction(3, 4) + s / 2 if name in lot else Fraction(1, 4)
                        self.assertTrue(same(share_of(book, lot, truth), pair_of(share)))


if __name__ == "__main__":
    unittest.main()
