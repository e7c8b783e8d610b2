"""Points [45] to [48]: two towns of one chart that have the same sheets."""

import itertools
import unittest

from checks import Case
from helpers import (
    FORM, WIDE, any_values, as_dict, book_with, deep, every_sheet, every_truth, mutants, names, pair_of, plain_own_blanks, plain_sheets,
    random_book, random_chart, random_maker, same, seeded, spread, subsets,
)
from test_charts import A, B, C, D, EMPTY
from test_leans import FOUR, cases, own_ways_of, plain_coins, plain_table
from test_makers import fault as maker_fault, plain_book
from test_ways import all_ways
from whyblank.books import share_of, truth_shares
from whyblank.charts import Chart, nodes_of
from whyblank.errors import NoName, Refused
from whyblank.forms import Form
from whyblank.makers import Maker, book_made, is_maker, share_made
from whyblank.sheets import sheets_of
from whyblank.towns import check_towns, have_other_truths, parted_at, town, town_share, towns_by, two_towns
from whyblank.ways import is_way, stops_of, way_of

SOLE = Form((("a", 3),))
X, Y = ("a", "a"), ("b", "a")
# Charts with an own way of the first question, by arrows and bows, and of which nodes its inner stops are.
KINDS = [
    (FORM, ((A, C),), (), ""), (FORM, (), ((A, C),), ""), (FORM, ((A, B),), ((B, C),), "a"), (FORM, (), ((A, B), (B, C)), "a"),
    (FORM, ((A, D),), ((C, D),), "b"), (FORM, (), ((A, D), (C, D)), "b"), (FORM, ((A, D), (C, D)), (), "b"), (FORM, ((C, D),), ((A, D),), "b"),
    (FORM, ((A, B),), ((B, D), (C, D)), "ab"), (FORM, (), ((A, B), (B, D), (C, D)), "ab"), (FORM, ((A, D),), ((B, D), (B, C)), "ba"),
    (FORM, (), ((A, D), (B, C), (B, D)), "ba"), (FORM, ((A, B), (C, D)), ((B, D),), "ab"), (SOLE, ((X, Y),), (), ""), (SOLE, (), ((X, Y),), ""),
]


def chart_of(form, arrows, bows):
    return Chart(form, tuple(sorted(arrows)), tuple(sorted(tuple(sorted(bow)) for bow in bows)))


def kinds():
    """Each chart with the first question's name, its only own way, and the letters of its inner stops."""
    for form, arrows, bows, inner in KINDS:
        chart = chart_of(form, arrows, bows)
        name = form.questions[0][0]
        way, = all_ways(chart, ("a", name), ("b", name))
        yield chart, name, way, inner


def book_of(maker):
    """The book of a maker, by trying all values."""
    return book_with(maker.chart.form, {place: share for place, share in plain_book(maker).items() if share})


def are_towns(chart, value):
    """Whether any value is a pair of two towns of a chart, told apart from the package."""
    if type(value) is not tuple or len(value) != 2:
        return False
    if any(maker_fault(maker) is not None or not same(maker.chart, chart) for maker in value):
        return False
    one, other = map(book_of, value)
    sheets = plain_sheets(one)
    return same(sheets, plain_sheets(other)) and len(sheets.shares) == len(every_sheet(chart.form)) and not same(one, other)


def with_row(maker, node, at, row):
    """The maker with another row of one table."""
    table = maker.tables[node]
    tables = maker.tables[:node] + (table[:at] + (row,) + table[at + 1:],) + maker.tables[node + 1:]
    return Maker(maker.chart, maker.coins, tables)


class Towns(Case):
    def agrees(self, chart, name, way):
        """Both towns are as told, and two towns by plain sums."""
        for lean in (1, -1):
            tables = tuple(plain_table(chart, name, way, lean, node) for node in nodes_of(chart.form))
            self.assertTrue(same(town(chart, name, way, lean), Maker(chart, plain_coins(chart, way), tables)))
            self.assertIs(is_maker(town(chart, name, way, lean)), True)
        both = towns_by(chart, name, way)
        self.assertTrue(same(both, (town(chart, name, way, 1), town(chart, name, way, -1))))
        self.assertIs(are_towns(chart, both), True)
        self.assertIs(check_towns(chart, both), True)
        return both

    def test_all_kinds_of_ways(self):
        for chart, name, way, inner in kinds():
            with self.subTest(arrows=chart.arrows, bows=chart.bows):
                self.assertEqual("".join(node[0] for node in stops_of(way, ("a", name))[1:-1]), inner)
                self.assertTrue(same(two_towns(chart, name), self.agrees(chart, name, way)))

    def test_random_ways(self):
        for chart, name, way in cases(300, 60):
            self.agrees(chart, name, way)

    def test_arrows_and_bows_beside_the_way(self):
        """All else in the chart stays even, and does not matter."""
        random = seeded(301)
        for chart, name, way, _ in kinds():
            for _ in range(4):
                more = random_chart(random, chart.form, 4, 2)
                arrows = sorted(set(chart.arrows) | {arrow for arrow in more.arrows if arrow[0][0] == "a" and arrow[1][0] == "b"})
                grown = Chart(chart.form, tuple(arrows), tuple(sorted(set(chart.bows) | set(more.bows))))
                self.assertIs(is_way(grown, ("a", name), ("b", name), way), True)
                self.agrees(grown, name, way)

    def test_by_the_least_of_the_shortest_ways(self):
        for chart, name, _ in cases(302, 60):
            self.assertTrue(same(two_towns(chart, name), towns_by(chart, name, way_of(chart, name))))
            ways = [way for other, way in own_ways_of(chart) if other == name]
            least = min(ways, key=lambda way: (len(way), way))
            self.assertTrue(same(two_towns(chart, name), towns_by(chart, name, least)))

    def test_any_values_as_name(self):
        chart = Chart(FORM, ((A, C),), ())
        for value in any_values() + ["pets", ("debts",), ["debts"]]:
            if value == "debts":
                self.assertIs(are_towns(chart, two_towns(chart, value)), True)
            else:
                self.fails(NoName, value, two_towns, chart, value)
                self.fails(NoName, value, two_towns, EMPTY, value)

    def test_without_a_way(self):
        self.fails(Refused, "closed", two_towns, EMPTY, "debts")
        self.fails(Refused, "closed", two_towns, Chart(FORM, ((A, C),), ()), "earns")
        self.fails(Refused, "closed", two_towns, Chart(FORM, ((A, B), (A, D), (C, D)), ()), "earns")
        random = seeded(303)
        for _ in range(40):
            chart = random_chart(random, WIDE, random.randrange(6), random.randrange(4))
            for name in names(WIDE):
                if not any(other == name for other, _ in own_ways_of(chart)):
                    self.fails(Refused, "closed", two_towns, chart, name)

    def test_by_names(self):
        chart, way = Chart(FORM, ((A, C),), ()), (("arrow", A, C),)
        self.assertEqual(two_towns(name="debts", chart=chart), towns_by(way=way, name="debts", chart=chart))
        self.assertEqual(town(lean=-1, way=way, name="debts", chart=chart), two_towns(chart, "debts")[1])
        self.assertIs(check_towns(value=two_towns(chart, "debts"), chart=chart), True)

    def test_the_greatest_charts(self):
        """Four questions of four answers, ten arrows and four bows, ways of five stretches."""
        form = Form(tuple((letter, 4) for letter in "abcd"))
        a, b, c, d, p, q, r, s = nodes_of(form)
        chart = Chart(form, ((a, s), (b, s), (c, s), (d, s), (p, s), (q, s), (r, s)), ((a, b), (b, c), (c, d), (d, p)))
        wide = Chart(form, tuple(sorted(chart.arrows + ((a, q), (b, r), (c, r)))), chart.bows)
        self.assertEqual(len(max(two_towns(wide, "d")[0].tables, key=len)), 4 ** 4 * 2 ** 3)
        random = seeded(304)
        for name in "abcd":
            way = way_of(wide, name)
            for lean, maker in zip((1, -1), two_towns(wide, name) if way else ()):
                for _ in range(6):
                    lot, truth = random.choice(subsets("abcd")), random.choice(every_truth(form))
                    self.assertTrue(same(town_share(form, name, way, lean, lot, truth), share_made(maker, lot, truth)))


class TownShares(Case):
    def agrees(self, chart, name, way):
        """The share of each lot and truth is that of the book which the town makes."""
        for lean in (1, -1):
            shares = plain_book(town(chart, name, way, lean))
            for lot in subsets(names(chart.form)):
                for truth in every_truth(chart.form):
                    found = town_share(chart.form, name, way, lean, lot, truth)
                    self.assertTrue(same(found, pair_of(shares.get((lot, truth), 0))), (chart.arrows, chart.bows, lot, truth))

    def test_all_kinds_of_ways(self):
        for chart, name, way, _ in kinds():
            self.agrees(chart, name, way)

    def test_random_ways(self):
        for chart, name, way in cases(305, 40):
            self.agrees(chart, name, way)

    def test_long_ways(self):
        a, b, c, d, p, q, r, s = nodes_of(FOUR)
        random = seeded(306)
        for arrows, bows in [(((a, b),), ((b, c), (c, d), (d, q), (p, q))), ((), ((a, b), (b, s), (s, q), (r, q), (p, r))), (((a, q), (p, r)), ((q, s), (r, s)))]:
            chart = chart_of(FOUR, arrows, bows)
            way = way_of(chart, "a")
            self.assertGreater(len(way), 3)
            for lean in (1, -1):
                book = book_made(town(chart, "a", way, lean))
                for _ in range(150):
                    lot, truth = random.choice(subsets("abcd")), random.choice(every_truth(FOUR))
                    self.assertTrue(same(town_share(FOUR, "a", way, lean, lot, truth), share_of(book, lot, truth)))

    def test_by_names(self):
        way = (("arrow", A, C),)
        self.assertEqual(town_share(truth=(0, 0), lot=("debts",), lean=1, way=way, name="debts", form=FORM), (3, 32))


class OtherTruths(Case):
    def agrees(self, chart, name, way):
        found = have_other_truths(way)
        one, other = [truth_shares(book_made(maker)) for maker in towns_by(chart, name, way)]
        self.assertIs(found, one != other)
        self.assertIs(found, all(node[0] == "a" for node in stops_of(way, ("a", name))[1:-1]))
        return found

    def test_all_kinds_of_ways(self):
        for chart, name, way, inner in kinds():
            self.assertIs(self.agrees(chart, name, way), "b" not in inner)

    def test_random_ways(self):
        found = [self.agrees(chart, name, way) for chart, name, way in cases(307, 60)]
        self.assertIn(True, found)
        self.assertIn(False, found)

    def test_by_name(self):
        self.assertIs(have_other_truths(way=(("arrow", A, C),)), True)
        self.assertIs(have_other_truths(way=(("bow", A, C),)), True)
        self.assertIs(have_other_truths((("arrow", A, D), ("bow", C, D))), False)


class Parted(Case):
    def plainly(self, one, other):
        first, second = as_dict(one), as_dict(other)
        unlike = [place for place in set(first) | set(second) if first.get(place, 0) != second.get(place, 0)]
        return min(unlike) if unlike else None

    def test_random_books(self):
        random = seeded(308)
        for _ in range(60):
            form = random.choice([SOLE, FORM, WIDE])
            one, other = random_book(random, form, random.choice([2, 9, None])), random_book(random, form, random.choice([2, 9, None]))
            self.assertTrue(same(parted_at(one, other), self.plainly(one, other)))
            self.assertTrue(same(parted_at(one, other), parted_at(other, one)))
            self.assertIsNone(parted_at(one, one))

    def test_places_that_are_in_one_book_alone(self):
        parts = {((), (0, 0)): 1, ((), (1, 1)): 2, (("debts",), (0, 1)): 1}
        one = book_with(FORM, parts)
        for place in (((), (0, 1)), (("debts",), (0, 0)), (("earns",), (1, 1))):
            other = book_with(FORM, {**parts, ((), (1, 1)): 1, place: 1})
            self.assertEqual(parted_at(one, other), min(place, ((), (1, 1))))
            self.assertEqual(parted_at(other=one, one=other), min(place, ((), (1, 1))))

    def test_towns_part(self):
        for chart, name, way in cases(309, 30):
            one, other = map(book_made, towns_by(chart, name, way))
            lot, truth = parted_at(one, other)
            self.assertIn(name, lot)
            self.assertEqual((lot, truth), self.plainly(one, other))
            self.assertNotEqual(share_of(one, lot, truth), share_of(other, lot, truth))


class Checked(Case):
    def agrees(self, chart, value):
        expected = are_towns(chart, value)
        self.assertIs(check_towns(chart, value), expected, value)
        return expected

    def test_any_values(self):
        chart = Chart(FORM, ((A, C),), ())
        one, other = two_towns(chart, "debts")
        for value in any_values():
            for pair in (value, (value, other), (one, value), (one, other, value), [one, other], (value, value), (value,), deep((one, other))):
                self.assertIs(check_towns(chart, pair), False)

    def test_changed_at_any_place(self):
        for chart in (Chart(SOLE, ((X, Y),), ()), Chart(SOLE, (), ((X, Y),))):
            right = two_towns(chart, "a")
            told = [self.agrees(chart, value) for value in mutants(right)]
            self.assertGreater(len(told), 500)
            self.assertIs(self.agrees(chart, right), True)

    def test_turned(self):
        for chart, name, way, _ in kinds():
            one, other = towns_by(chart, name, way)
            for pair in ((other, one), (one, one), (other, other), (one, other, one), (one,), [one, other], (one, (other,))):
                self.assertIs(self.agrees(chart, pair), same(pair, (other, one)))

    def test_rows_coins_and_tables_turned(self):
        random = seeded(310)
        told = []
        for chart, name, way, _ in kinds():
            if len(chart.form.questions) > 1 and len(chart.bows) > 2:
                continue
            one, other = towns_by(chart, name, way)
            for _ in range(8):
                node = random.randrange(len(one.tables))
                at = random.randrange(len(one.tables[node]))
                row = random.choice([spread(random, len(one.tables[node][at]), 12), one.tables[node][at][::-1], random.choice(other.tables[node])])
                told.append(self.agrees(chart, (with_row(one, node, at, row), other)))
                # The same change to both towns may leave them two towns.
                told.append(self.agrees(chart, (with_row(one, node, at, row), with_row(other, node, at, row))))
            if chart.bows:
                coins = one.coins[:-1] + (((1, 3), (2, 3)),)
                told.append(self.agrees(chart, (Maker(chart, coins, one.tables), Maker(chart, coins, other.tables))))
                told.append(self.agrees(chart, (Maker(chart, coins, one.tables), other)))
            tables = one.tables[:-1] + other.tables[-1:]
            told.append(self.agrees(chart, (Maker(chart, one.coins, tables), other)))
            told.append(self.agrees(chart, (Maker(chart, one.coins, one.tables[::-1]), other)))
        self.assertIn(True, told)
        self.assertIn(False, told)

    def test_other_charts(self):
        """Makers of another chart are none of this one, even if a maker of this one makes the same book."""
        less, more = Chart(FORM, ((A, C),), ()), Chart(FORM, ((A, C), (B, D)), ())
        one, other = two_towns(less, "debts")
        self.assertIs(self.agrees(more, (one, other)), False)
        self.assertIs(self.agrees(less, two_towns(more, "debts")), False)
        self.assertIs(self.agrees(less, (one, two_towns(more, "debts")[1])), False)
        self.assertIs(self.agrees(more, two_towns(more, "debts")), True)
        turned = Maker(Chart(FORM, [(A, C)], ()), other.coins, other.tables)
        self.assertIs(self.agrees(less, (one, turned)), False)

    def test_a_sheet_that_does_not_come(self):
        """Unlike books with the same sheets, not all of which come."""
        chart = Chart(SOLE, ((X, Y),), ())
        sure = ((0, 1), (1, 1))
        makers = [Maker(chart, (), ((row,), (sure, sure, sure))) for row in (((1, 3), (1, 3), (1, 3)), ((1, 2), (1, 4), (1, 4)))]
        one, other = map(book_made, makers)
        self.assertEqual(sheets_of(one), sheets_of(other))
        self.assertNotEqual(one, other)
        self.assertIs(self.agrees(chart, tuple(makers)), False)

    def test_makers_that_are_no_towns(self):
        random = seeded(311)
        for _ in range(30):
            chart = random_chart(random, FORM, random.randrange(4), random.randrange(2))
            pair = (random_maker(random, chart), random_maker(random, chart))
            self.assertIs(self.agrees(chart, pair), False)
            self.assertIs(self.agrees(chart, pair[:1] * 2), False)

    def test_towns_that_are_told_otherwise(self):
        """Other makers than those told by ways are taken as well."""
        chart = Chart(SOLE, ((X, Y),), ())
        half = ((1, 2), (1, 2))
        one = Maker(chart, (), ((((3, 8), (3, 8), (1, 4)),), (((1, 3), (2, 3)), ((2, 3), (1, 3)), half)))
        other = Maker(chart, (), ((((1, 4), (1, 2), (1, 4)),), (half, half, half)))
        self.assertIs(self.agrees(chart, (one, other)), True)
        leaning = Maker(chart, (), ((((1, 4), (1, 2), (1, 4)),), (half, half, ((1, 4), (3, 4)))))
        self.assertIs(self.agrees(chart, (one, leaning)), False)

    def test_towns_have_an_own_blank(self):
        for chart, name, way, _ in kinds():
            for maker in towns_by(chart, name, way):
                self.assertIn(name, plain_own_blanks(book_of(maker)))
        for one, other in itertools.combinations([chart for chart, _, _, _ in kinds()], 2):
            self.assertNotEqual(one, other)


if __name__ == "__main__":
    unittest.main()
