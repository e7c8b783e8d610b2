"""Points [23] to [25] and [29]: makers."""

import itertools
import unittest
from fractions import Fraction
from math import lcm

from checks import Case
from helpers import (
    FORM, HUGE, WIDE, all_nodes, any_values, deep, every_truth, frac, mutants, names, pair_of, random_book, random_chart, random_form,
    random_maker, same, seeded, spread, subsets,
)
from test_charts import A, B, C, D, EMPTY, FULL, fault as chart_fault
from test_fractions import fault as fraction_fault
from whyblank.books import Book, is_book, share_of
from whyblank.charts import Chart, order_of
from whyblank.errors import InvalidMaker, InvalidSize
from whyblank.forms import Form
from whyblank.makers import (
    Maker, book_made, choices, even_maker, feeders, free_given_rest, is_maker, is_sure, maker_for, need_maker, person_made,
    share_made, values_of,
)
from whyblank.ways import joined_pairs

HALF = ((1, 2), (1, 2))
SURE = ((0, 1), (1, 1))
SOLE = Form((("a", 2),))
X, Y = ("a", "a"), ("b", "a")
BOTH = Chart(SOLE, ((X, Y),), ((X, Y),))
COIN = ((1, 3), (0, 1), (2, 3))
TABLES = ((HALF, SURE, ((1, 4), (3, 4))), (HALF, HALF, SURE, SURE, HALF, ((1, 1), (0, 1))))
MAKER = Maker(BOTH, (COIN,), TABLES)
ARROW = Chart(FORM, ((B, C),), ())
PLAIN = Maker(ARROW, (), ((HALF,), (HALF,), (((3, 4), (1, 4)), ((1, 4), (3, 4))), (HALF,)))


def many_values(form, node):
    return dict(form.questions)[node[1]] if node[0] == "a" else 2


def fed_by(chart, node):
    return sorted(start for start, end in chart.arrows if end == node) + [bow for bow in chart.bows if node in bow]


def sizes(chart, coins, node):
    found = []
    for feeder in fed_by(chart, node):
        bow = feeder in chart.bows
        found.append(len(coins[chart.bows.index(feeder)]) if bow else many_values(chart.form, feeder))
    return found


def is_spread(value):
    if type(value) is not tuple or any(fraction_fault(one) is not None for one in value):
        return False
    return all(one[0] >= 0 for one in value) and sum(frac(one) for one in value) == 1


def leading(value, rights):
    """How many of the tests hold, one after the other, for the things of any value."""
    many = 0
    if type(value) is tuple:
        for thing, right in zip(value, rights):
            if not right(thing):
                break
            many += 1
    return many


def table_test(chart, coins, node):
    rows = 1
    for size in sizes(chart, coins, node):
        rows *= size
    width = many_values(chart.form, node)

    def right(value):
        if type(value) is not tuple or len(value) != rows:
            return False
        return all(is_spread(row) and len(row) == width for row in value)

    return right


def fault(value):
    """What is wrong with any value as a maker, told apart from the package."""
    if type(value) is not Maker or chart_fault(value.chart) is not None:
        return -1
    bows, nodes = value.chart.bows, all_nodes(value.chart.form)
    many = leading(value.coins, [is_spread] * len(bows))
    if type(value.coins) is not tuple or len(value.coins) != len(bows) or many < len(bows):
        return (0, many)
    many = leading(value.tables, [table_test(value.chart, value.coins, node) for node in nodes])
    if type(value.tables) is not tuple or len(value.tables) != len(nodes) or many < len(nodes):
        return (1, many)
    return None


def plain_book(maker):
    """The shares of all lots and truths, as (lot, truth) to share, summed by trying all values."""
    chart = maker.chart
    form, nodes = chart.form, all_nodes(chart.form)
    shares = {}
    for sides in itertools.product(*[range(len(coin)) for coin in maker.coins]):
        for values in itertools.product(*[range(many_values(form, node)) for node in nodes]):
            shown = dict(zip(nodes, values))
            shown.update(zip(chart.bows, sides))
            share = Fraction(1)
            for coin, side in zip(maker.coins, sides):
                share *= frac(coin[side])
            for node, table in zip(nodes, maker.tables):
                fed = [range(size) for size in sizes(chart, maker.coins, node)]
                at = list(itertools.product(*fed)).index(tuple(shown[feeder] for feeder in fed_by(chart, node)))
                share *= frac(table[at][shown[node]])
            many = len(form.questions)
            lot = tuple(name for name, blank in zip(names(form), values[many:]) if blank)
            shares[(lot, values[:many])] = shares.get((lot, values[:many]), Fraction(0)) + share
    return shares


def makers(number, many, questions=2, nought=True):
    random = seeded(number)
    for _ in range(many):
        chart = random_chart(random, random_form(random, questions, 3), random.randrange(0, 5), random.randrange(0, 3))
        yield random_maker(random, chart, nought and random.random() < 0.5)


class Makers(Case):
    def test_a_maker_checks_nothing(self):
        for value in any_values():
            maker = Maker(value, value, tables=value)
            self.assertTrue(same(maker.chart, value) and same(maker.coins, value) and same(maker.tables, value))
            self.assertEqual(sorted(vars(maker)), ["chart", "coins", "tables"])

    def test_equal(self):
        self.assertEqual(MAKER, Maker(BOTH, (COIN,), TABLES))
        self.assertNotEqual(MAKER, Maker(FULL, (COIN,), TABLES))
        self.assertNotEqual(MAKER, Maker(BOTH, (HALF,), TABLES))
        self.assertNotEqual(MAKER, Maker(BOTH, (COIN,), TABLES[1:]))
        for value in any_values():
            self.assertEqual(PLAIN == value, False)

    def test_values_feeders_choices(self):
        for node in all_nodes(WIDE):
            self.assertEqual(values_of(WIDE, node), many_values(WIDE, node))
        self.assertEqual(values_of(node=("b", "drink"), form=WIDE), 2)
        random = seeded(30)
        for _ in range(60):
            chart = random_chart(random, random_form(random, 3, 3), random.randrange(0, 7), random.randrange(0, 4))
            coins = tuple(spread(random, random.randrange(1, 4)) for _ in chart.bows)
            for node in all_nodes(chart.form):
                self.assertTrue(same(feeders(chart, node), tuple(fed_by(chart, node))))
                every = tuple(itertools.product(*[range(size) for size in sizes(chart, coins, node)]))
                self.assertTrue(same(choices(chart, coins, node), every))
        self.assertEqual(feeders(node=Y, chart=BOTH), (X, (X, Y)))
        self.assertEqual(choices(node=X, coins=(COIN,), chart=BOTH), ((0,), (1,), (2,)))
        self.assertEqual(choices(EMPTY, (), A), ((),))

    def test_makers(self):
        for maker in list(makers(31, 40, 3)) + [MAKER, PLAIN]:
            self.assertIsNone(need_maker(maker))
            self.assertIs(is_maker(maker), True)
        self.assertIsNone(need_maker(value=MAKER))
        self.assertIs(is_maker(value=MAKER), True)

    def test_no_maker_of_a_chart(self):
        for value in [None, MAKER.chart, (BOTH, (COIN,), TABLES), Maker(None, (COIN,), TABLES), Maker(Chart(SOLE, [], ()), (), ()), HUGE]:
            self.fails(InvalidMaker, -1, need_maker, value)
            self.assertIs(is_maker(value), False)

    def test_wrong_coins(self):
        wrong = [
            (), [COIN], None, COIN, ([],), ((),), ([(1, 1)],), (((1, 2),),), (((1, 2), (2, 4)),), (((1, 2), [1, 2]),), ((1, 1),),
            (((2, 1), (-1, 1)),), (((0, 1),),), (((1, 2), (1, 2), (1, 2)),), (((True, 1),),), (None,), (MAKER,), (((1, 2), 1),),
        ]
        for coins in wrong:
            self.fails(InvalidMaker, (0, 0), need_maker, Maker(BOTH, coins, None))
            self.fails(InvalidMaker, (0, 0), need_maker, Maker(BOTH, coins, TABLES))
        self.fails(InvalidMaker, (0, 1), need_maker, Maker(BOTH, (COIN, COIN), TABLES))
        self.fails(InvalidMaker, (0, 1), need_maker, Maker(BOTH, (COIN, None), TABLES))
        self.fails(InvalidMaker, (0, 0), need_maker, Maker(ARROW, (COIN,), PLAIN.tables))
        self.fails(InvalidMaker, (0, 0), need_maker, Maker(ARROW, [], PLAIN.tables))
        three = Chart(FORM, (), ((A, B), (A, C), (A, D)))
        self.fails(InvalidMaker, (0, 2), need_maker, Maker(three, (COIN, HALF, None), ()))
        self.fails(InvalidMaker, (0, 2), need_maker, Maker(three, (COIN, HALF), ()))
        self.fails(InvalidMaker, (0, 1), need_maker, Maker(three, (COIN, None, HALF), ()))
        self.fails(InvalidMaker, (0, 0), need_maker, Maker(three, [COIN, HALF, HALF], ()))
        self.assertEqual(fault(Maker(BOTH, (((1, 1),),), (((HALF,),), HALF))), (1, 0))

    def test_wrong_tables(self):
        for tables in [None, [], (), list(TABLES), (list(TABLES[0]), TABLES[1]), (TABLES[1], TABLES[0]), (None, None), TABLES[1:], HUGE]:
            self.fails(InvalidMaker, (1, 0), need_maker, Maker(BOTH, (COIN,), tables))
        for last in [None, (), list(TABLES[1]), TABLES[1][:-1], TABLES[1] + (HALF,), TABLES[0], (list(HALF),) + TABLES[1][1:]]:
            self.fails(InvalidMaker, (1, 1), need_maker, Maker(BOTH, (COIN,), (TABLES[0], last)))
        self.fails(InvalidMaker, (1, 1), need_maker, Maker(BOTH, (COIN,), TABLES[:1]))
        self.fails(InvalidMaker, (1, 2), need_maker, Maker(BOTH, (COIN,), TABLES + (HALF,)))
        for row in [((1, 1),), ((1, 2), (1, 3), (1, 6)), ((1, 2), (1, 3)), ((2, 4), (1, 2)), ((3, 2), (-1, 2)), [(1, 2), (1, 2)], ()]:
            self.fails(InvalidMaker, (1, 1), need_maker, Maker(BOTH, (COIN,), (TABLES[0], (row,) + TABLES[1][1:])))
            self.fails(InvalidMaker, (1, 1), need_maker, Maker(BOTH, (COIN,), (TABLES[0], TABLES[1][:-1] + (row,))))

    def test_a_big_coin_with_no_tables(self):
        coin = tuple((1, 1000) for _ in range(1000))
        pairs = tuple(itertools.combinations([A, B, C, D], 2))
        self.fails(InvalidMaker, (1, 0), need_maker, Maker(Chart(FORM, (), pairs), (coin,) * 6, ((), (), (), ())))

    def test_any_values(self):
        for value in any_values() + list(mutants(MAKER)) + list(mutants(PLAIN)):
            self.assertEqual(self.need_and_is(need_maker, is_maker, InvalidMaker, value), fault(value))

    def test_a_thing_turned_at_any_depth(self):
        """Coins and tables that are turned, cut, doubled or emptied at one place."""
        for maker in makers(32, 4, 2):
            for value in mutants(maker, [(), (0, 1), (1, 1)]):
                self.assertEqual(self.need_and_is(need_maker, is_maker, InvalidMaker, value), fault(value))

    def test_even_maker(self):
        random = seeded(33)
        for _ in range(40):
            chart = random_chart(random, random_form(random, 3, 4), random.randrange(0, 6), random.randrange(0, 3))
            maker = even_maker(chart)
            self.assertIs(is_maker(maker), True)
            self.assertEqual(maker.chart, chart)
            self.assertTrue(all(coin == ((1, 2), (1, 2)) for coin in maker.coins))
            for node, table in zip(all_nodes(chart.form), maker.tables):
                many = many_values(chart.form, node)
                self.assertTrue(all(same(row, ((1, many),) * many) for row in table))
            self.assertIs(is_sure(maker), True)
        self.assertEqual(even_maker(chart=EMPTY).coins, ())


class Made(Case):
    def test_share_and_book(self):
        for maker in list(makers(34, 40)) + [MAKER, PLAIN]:
            shares = plain_book(maker)
            form = maker.chart.form
            book = book_made(maker)
            self.assertEqual(sum(shares.values()), 1)
            self.assertIs(is_book(book), True)
            rows = [key + (pair_of(shares[key]),) for key in sorted(shares) if shares[key]]
            self.assertTrue(same(book, Book(form, tuple(rows))))
            for lot in subsets(names(form)):
                for truth in every_truth(form):
                    self.assertTrue(same(share_made(maker, lot, truth), pair_of(shares[(lot, truth)])))
                    self.assertEqual(share_of(book, lot, truth), share_made(maker, lot, truth))
        self.assertEqual(share_made(truth=(0, 1), lot=("debts",), maker=PLAIN), (3, 32))
        self.assertEqual(book_made(maker=PLAIN), book_made(PLAIN))

    def test_is_sure(self):
        for maker in makers(35, 40):
            rows = list(maker.coins) + [row for table in maker.tables for row in table]
            self.assertIs(is_sure(maker), all(one[0] > 0 for row in rows for one in row))
        self.assertIs(is_sure(MAKER), False)
        self.assertIs(is_sure(maker=PLAIN), True)
        self.assertIs(is_sure(Maker(Chart(SOLE, (), ((X, Y),)), (((1, 1), (0, 1)),), ((HALF, HALF), (HALF, HALF)))), False)

    def test_a_big_maker(self):
        form = Form((("a", 2), ("b", 2), ("c", 2)))
        one = [("a", name) for name in "abc"] + [("b", name) for name in "abc"]
        chart = Chart(form, ((one[0], one[3]), (one[1], one[4])), ((one[0], one[1]), (one[0], one[4]), (one[2], one[3]), (one[4], one[5])))
        maker = random_maker(seeded(36), chart, False, 5)
        book = book_made(maker)
        self.assertIs(is_book(book), True)
        for lot, truth, share in book.shares[::7]:
            self.assertEqual(share_made(maker, lot, truth), share)


def plain_person(maker, draws):
    """One person, made apart from the package."""
    chart = maker.chart
    nodes = all_nodes(chart.form)

    def drawn(shares, draw):
        parts = lcm(*[one[1] for one in shares])
        total = Fraction(0)
        for value, one in enumerate(shares):
            total += frac(one)
            if total > Fraction(draw % parts, parts):
                return value

    shown = {bow: drawn(coin, draw) for bow, coin, draw in zip(chart.bows, maker.coins, draws)}
    for node in order_of(chart):
        fed = [range(size) for size in sizes(chart, maker.coins, node)]
        at = list(itertools.product(*fed)).index(tuple(shown[feeder] for feeder in fed_by(chart, node)))
        shown[node] = drawn(maker.tables[nodes.index(node)][at], draws[len(chart.bows) + nodes.index(node)])
    lot = tuple(name for name in names(chart.form) if shown[("b", name)])
    return (lot, tuple(shown[("a", name)] for name in names(chart.form)))


class Persons(Case):
    def test_persons(self):
        random = seeded(37)
        for maker in makers(38, 60, 3):
            many = len(maker.chart.bows) + 2 * len(maker.chart.form.questions)
            for _ in range(10):
                draws = [random.randrange(random.choice([3, 100, 10 ** 30 + 1])) for _ in range(many)]
                for held in (draws, tuple(draws)):
                    self.assertTrue(same(person_made(maker, held), plain_person(maker, draws)))
        self.assertEqual(person_made(draws=(1, 1, 2, 0), maker=PLAIN), (("debts",), (1, 1)))

    def test_noughts_are_not_drawn(self):
        for draws in itertools.product(range(3), range(4), range(2)):
            (lot, truth), shares = person_made(MAKER, draws), plain_book(MAKER)
            self.assertGreater(shares[(lot, truth)], 0)

    def test_counted_over_all_draws(self):
        for maker in [MAKER, PLAIN] + [one for one in makers(39, 8, 1) if len(one.chart.bows) < 2]:
            rows = list(maker.coins) + [row for table in maker.tables for row in table]
            parts = lcm(*[one[1] for row in rows for one in row])
            many = len(maker.chart.bows) + 2 * len(maker.chart.form.questions)
            if parts ** many > 20000:
                continue
            counted = {}
            for draws in itertools.product(range(parts), repeat=many):
                person = person_made(maker, draws)
                counted[person] = counted.get(person, 0) + 1
            for person, share in plain_book(maker).items():
                self.assertEqual(Fraction(counted.get(person, 0), parts ** many), share)


def plainly_free(book, one, other):
    """Whether two nodes are free of each other, told apart from the package."""
    form, nodes = book.form, all_nodes(book.form)
    held = {}
    for lot, truth, share in book.shares:
        values = truth + tuple(int(name in lot) for name in names(form))
        held[values] = frac(share)
    first, second = nodes.index(one), nodes.index(other)

    def at(rest, value, beside):
        values = list(rest)
        values[first], values[second] = value, beside
        return held.get(tuple(values), Fraction(0))

    ranges = [range(many_values(form, node)) for node in nodes]
    for rest in itertools.product(*[[0] if at_node in (first, second) else one for at_node, one in enumerate(ranges)]):
        for u, v in itertools.product(ranges[first], repeat=2):
            for w, z in itertools.product(ranges[second], repeat=2):
                if at(rest, u, w) * at(rest, v, z) != at(rest, u, z) * at(rest, v, w):
                    return False
    return True


class Free(Case):
    def test_free_given_rest(self):
        random = seeded(40)
        told = set()
        for number in range(60):
            form = random_form(random, 2, 3)
            if number % 2:
                chart = random_chart(random, form, random.randrange(0, 4), random.randrange(0, 3))
                book = book_made(random_maker(random, chart, random.random() < 0.5))
            else:
                book = random_book(random, form, random.choice([1, 2, 4, None]))
            for one, other in itertools.permutations(all_nodes(form), 2):
                found = free_given_rest(book, one, other)
                self.assertIs(found, plainly_free(book, one, other))
                told.add(found)
        self.assertEqual(told, {True, False})
        self.assertIs(free_given_rest(other=C, one=A, book=book_made(PLAIN)), True)
        self.assertIs(free_given_rest(book_made(PLAIN), B, C), False)

    def test_no_way_leaves_them_free(self):
        random = seeded(41)
        for _ in range(40):
            chart = random_chart(random, random_form(random, 3, 2), random.randrange(0, 5), random.randrange(0, 3))
            book = book_made(random_maker(random, chart, random.random() < 0.5))
            joined = joined_pairs(chart)
            for pair in itertools.combinations(all_nodes(chart.form), 2):
                if pair not in joined:
                    self.assertIs(free_given_rest(book, *pair), True)
                    self.assertIs(free_given_rest(book, *pair[::-1]), True)


class MakersFor(Case):
    def test_bows(self):
        book = book_made(PLAIN)
        self.fails(InvalidSize, "bows", maker_for, Chart(FORM, ARROW.arrows, ((A, B),)), book)

    def test_the_maker_of_a_sure_book(self):
        random = seeded(42)
        for _ in range(40):
            chart = random_chart(random, random_form(random, 3, 3), random.randrange(0, 6), 0)
            maker = random_maker(random, chart)
            self.assertTrue(same(maker_for(chart, book_made(maker)), maker))
        self.assertEqual(maker_for(book=book_made(PLAIN), chart=ARROW), PLAIN)

    def test_where_nobody_has_the_parents_values(self):
        random = seeded(43)
        noughts = 0
        for _ in range(60):
            chart = random_chart(random, random_form(random, 3, 3), random.randrange(0, 6), 0)
            maker = random_maker(random, chart, True)
            book = book_made(maker)
            found = maker_for(chart, book)
            self.assertIs(is_maker(found), True)
            self.assertEqual(found.chart, chart)
            self.assertEqual(book_made(found), book)
            noughts += found != maker
        self.assertGreater(noughts, 0)

    def test_none(self):
        random = seeded(44)
        told = set()
        for _ in range(80):
            chart = random_chart(random, random_form(random, 2, 2), random.randrange(0, 5), 0)
            other = random_chart(random, chart.form, random.randrange(0, 5), random.randrange(0, 2))
            book = book_made(random_maker(random, other, random.random() < 0.5))
            found = maker_for(chart, book)
            told.add(found is None)
            if found is not None:
                self.assertEqual(book_made(found), book)
            else:
                self.assertFalse(obeys(chart, book))
        self.assertEqual(told, {True, False})
        self.assertIsNone(maker_for(Chart(FORM, (), ()), book_made(PLAIN)))


def obeys(chart, book):
    """Whether a book is the product of its own quotients, told apart from the package."""
    form, nodes = chart.form, all_nodes(chart.form)
    rows = []
    for lot, truth, share in book.shares:
        rows.append((dict(zip(nodes, truth + tuple(int(name in lot) for name in names(form)))), frac(share)))

    def share_with(some):
        return sum(share for shown, share in rows if all(shown[node] == value for node, value in some.items()))

    for values in itertools.product(*[range(many_values(form, node)) for node in nodes]):
        shown = dict(zip(nodes, values))
        product = Fraction(1)
        for node in order_of(chart):
            fed = {feeder: shown[feeder] for feeder in fed_by(chart, node)}
            below = share_with(fed)
            product *= share_with({**fed, node: shown[node]}) / below if below else 0
        if product != share_with(shown):
            return False
    return True


if __name__ == "__main__":
    unittest.main()
