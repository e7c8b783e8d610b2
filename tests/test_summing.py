"""Points [26] to [28]: margins, and factors that are summed out."""

import itertools
import unittest
from fractions import Fraction

from checks import Case
from helpers import (
    FORM, all_nodes, any_values, comes_to, frac, names, pair_of, random_book, random_chart, random_form, random_maker, same, seeded,
    subsets,
)
from test_charts import A, B, C, D
from test_makers import BOTH, COIN, MAKER, PLAIN, TABLES, X, Y, fed_by, makers, many_values, sizes
from whyblank.makers import book_made
from whyblank.summing import (
    Factor, factors_of, margin, needed, product_of, summed, summed_needed, summed_out,
)


def plain_margin(book, nodes):
    every = all_nodes(book.form)
    sums = {}
    for lot, truth, share in book.shares:
        values = truth + tuple(int(name in lot) for name in names(book.form))
        key = tuple(values[every.index(node)] for node in nodes)
        sums[key] = sums.get(key, Fraction(0)) + frac(share)
    return tuple((key, pair_of(sums[key])) for key in sorted(sums))


def share_at(factor, shown):
    """The share of a factor at a dict of values, found among all its choices."""
    every = list(itertools.product(*[range(size) for size in factor.sizes]))
    return frac(factor.shares[every.index(tuple(shown[thing] for thing in factor.things))])


def random_factor(random, things):
    some = random.sample(things, random.randrange(0, len(things) + 1))
    sizes_of = {thing: 1 + at % 3 for at, thing in enumerate(things)}
    many = 1
    for thing in some:
        many *= sizes_of[thing]
    shares = tuple(pair_of(Fraction(random.randrange(0, 5), random.randrange(1, 6))) for _ in range(many))
    return Factor(tuple(some), tuple(sizes_of[thing] for thing in some), shares)


class Margins(Case):
    def test_margin(self):
        random = seeded(50)
        for _ in range(60):
            form = random_form(random)
            book = random_book(random, form, random.choice([1, 3, 9, None]))
            for nodes in random.sample(subsets(all_nodes(form)), 4):
                self.assertTrue(same(margin(book, nodes), plain_margin(book, nodes)))
            self.assertEqual(margin(book, ()), (((), (1, 1)),))
        self.assertEqual(margin(nodes=(B, C), book=book_made(PLAIN)), (
            ((0, 0), (3, 8)), ((0, 1), (1, 8)), ((1, 0), (1, 8)), ((1, 1), (3, 8))))

    def test_only_above_0(self):
        book = book_made(MAKER)
        self.assertTrue(all(share[0] > 0 for _, share in margin(book, (X, Y))))


class Factors(Case):
    def test_a_factor_checks_nothing(self):
        for value in any_values():
            factor = Factor(value, value, shares=value)
            self.assertTrue(same(factor.things, value) and same(factor.sizes, value) and same(factor.shares, value))
            self.assertEqual(sorted(vars(factor)), ["shares", "sizes", "things"])

    def test_equal(self):
        one = Factor((X,), (2,), ((1, 2), (1, 2)))
        self.assertEqual(one, Factor((X,), (2,), ((1, 2), (1, 2))))
        self.assertNotEqual(one, Factor((Y,), (2,), ((1, 2), (1, 2))))
        self.assertNotEqual(one, Factor((X,), (1,), ((1, 2), (1, 2))))
        self.assertNotEqual(one, Factor((X,), (2,), ((1, 2), (1, 3))))
        for value in any_values():
            self.assertFalse(one == value)

    def test_factors_of(self):
        for maker in list(makers(51, 30, 3)) + [MAKER, PLAIN]:
            chart = maker.chart
            expected = [Factor((bow,), (len(coin),), coin) for bow, coin in zip(chart.bows, maker.coins)]
            for node, table in zip(all_nodes(chart.form), maker.tables):
                things = tuple(fed_by(chart, node)) + (node,)
                many = tuple(sizes(chart, maker.coins, node)) + (many_values(chart.form, node),)
                expected.append(Factor(things, many, tuple(one for row in table for one in row)))
            self.assertTrue(same(factors_of(maker), tuple(expected)))
        bow = (X, Y)
        self.assertEqual(factors_of(maker=MAKER), (
            Factor((bow,), (3,), COIN), Factor((bow, X), (3, 2), sum(TABLES[0], ())), Factor((X, bow, Y), (2, 3, 2), sum(TABLES[1], ()))))
        self.assertEqual(factors_of(MAKER)[2].things, tuple(fed_by(BOTH, Y)) + (Y,))

    def test_product_of(self):
        random = seeded(52)
        things = [A, B, C, (A, B), (A, C)]
        for _ in range(150):
            one, other = random_factor(random, things), random_factor(random, things)
            found = product_of(one, other)
            expected = one.things + tuple(thing for thing in other.things if thing not in one.things)
            self.assertTrue(same(found.things, expected))
            size = {**dict(zip(one.things, one.sizes)), **dict(zip(other.things, other.sizes))}
            self.assertTrue(same(found.sizes, tuple(size[thing] for thing in expected)))
            shares = []
            for values in itertools.product(*[range(size[thing]) for thing in expected]):
                shown = dict(zip(expected, values))
                shares.append(pair_of(share_at(one, shown) * share_at(other, shown)))
            self.assertTrue(same(found.shares, tuple(shares)))
            self.assertEqual(product_of(other=other, one=one), found)

    def test_summed_out(self):
        random = seeded(53)
        things = [A, B, C, (A, B), (A, C)]
        for _ in range(150):
            factor = random_factor(random, things)
            for at, thing in enumerate(factor.things):
                found = summed_out(factor, thing)
                left = factor.things[:at] + factor.things[at + 1:]
                self.assertTrue(same(found.things, left))
                self.assertTrue(same(found.sizes, factor.sizes[:at] + factor.sizes[at + 1:]))
                shares = []
                for values in itertools.product(*[range(size) for size in found.sizes]):
                    shown = dict(zip(left, values))
                    total = sum(share_at(factor, {**shown, thing: value}) for value in range(factor.sizes[at]))
                    shares.append(pair_of(total))
                self.assertTrue(same(found.shares, tuple(shares)))
                self.assertEqual(summed_out(thing=thing, factor=factor), found)
        self.assertTrue(same(summed_out(Factor((X,), (2,), ((1, 2), (1, 2))), X), Factor((), (), ((1, 1),))))


class Summed(Case):
    def test_all_orders_tell_the_same(self):
        for maker in list(makers(54, 6)) + [MAKER, PLAIN]:
            chart = maker.chart
            things = all_nodes(chart.form) + list(chart.bows)
            book = book_made(maker)
            for nodes in subsets(all_nodes(chart.form))[::3]:
                expected = plain_margin(book, nodes)
                others = [thing for thing in things if thing not in nodes]
                for order in list(itertools.permutations(others))[:120]:
                    self.assertTrue(same(summed(maker, nodes, order), expected))

    def test_all_three_tell_the_same(self):
        random = seeded(55)
        for maker in list(makers(56, 40, 3)) + [MAKER, PLAIN]:
            chart = maker.chart
            book = book_made(maker)
            for nodes in random.sample(subsets(all_nodes(chart.form)), 4):
                others = [thing for thing in all_nodes(chart.form) + list(chart.bows) if thing not in nodes]
                random.shuffle(others)
                expected = margin(book, nodes)
                self.assertTrue(same(summed(maker, nodes, tuple(others)), expected))
                self.assertTrue(same(summed_needed(maker, nodes), expected))
        self.assertEqual(summed(order=(D, B, A), nodes=(C,), maker=PLAIN), (((0,), (1, 2)), ((1,), (1, 2))))
        self.assertEqual(summed_needed(nodes=(C,), maker=PLAIN), (((0,), (1, 2)), ((1,), (1, 2))))
        self.assertEqual(summed_needed(PLAIN, ()), (((), (1, 1)),))

    def test_only_above_0(self):
        for maker in makers(57, 30):
            for told in (summed_needed(maker, (all_nodes(maker.chart.form)[0],)), summed_needed(maker, tuple(all_nodes(maker.chart.form)))):
                self.assertTrue(all(share[0] > 0 for _, share in told))

    def test_needed(self):
        random = seeded(58)
        for _ in range(60):
            chart = random_chart(random, random_form(random, 4, 3), random.randrange(0, 9), 2)
            nodes = all_nodes(chart.form)
            for some in random.sample(subsets(nodes), 4):
                expected = tuple(node for node in nodes if node in some or comes_to(chart.arrows, node) & set(some))
                self.assertTrue(same(needed(chart, some), expected))
        self.assertEqual(needed(nodes=(C,), chart=PLAIN.chart), (B, C))
        self.assertEqual(needed(PLAIN.chart, ()), ())


if __name__ == "__main__":
    unittest.main()
