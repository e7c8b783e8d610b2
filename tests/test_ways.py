"""Points [17] to [19]: ways."""

import itertools
import unittest

from checks import Case
from helpers import FORM, WIDE, all_nodes, any_values, deep, mutants, names, random_chart, random_form, same, seeded
from test_charts import A, B, BIG, C, D, EMPTY, FULL
from whyblank.charts import Chart, groups_of, with_arrow, with_bow
from whyblank.errors import InvalidWay, NoName, Refused
from whyblank.forms import Form
from whyblank.ways import (
    is_way, joined_pairs, need_way, own_ways, stops_of, stretches_of, turned_way, way_between, way_of, ways_between, without,
)


def lines(chart):
    return sorted([("arrow",) + one for one in chart.arrows] + [("bow",) + one for one in chart.bows])


def head(line, node):
    return line[0] == "bow" or line[2] == node


def fault(chart, one, other, value):
    """What is wrong with any value as a way, told apart from the package."""
    if type(value) is not tuple or value == ():
        return -1
    here, met = one, [one]
    for at, line in enumerate(value):
        if not any(same(line, known) for known in lines(chart)) or here == other or here not in (line[1], line[2]):
            return at
        if at and not (head(value[at - 1], here) and head(line, here)):
            return at
        here = line[2] if here == line[1] else line[1]
        if here in met:
            return at
        met.append(here)
    return None if here == other else len(value)


def all_ways(chart, one, other):
    """All ways, by trying all rows of unlike stretches."""
    found = []
    for many in range(1, len(lines(chart)) + 1):
        for some in itertools.permutations(lines(chart), many):
            if fault(chart, one, other, some) is None:
                found.append(some)
    return sorted(found)


def small_charts(number, many, arrows=3, bows=3):
    random = seeded(number)
    for _ in range(many):
        yield random_chart(random, random_form(random, 3, 2), random.randrange(0, arrows + 1), random.randrange(0, bows + 1))


class Stretches(Case):
    def test_stretches(self):
        for chart in list(small_charts(18, 40)) + [EMPTY, FULL, BIG]:
            self.assertTrue(same(stretches_of(chart), tuple(lines(chart))))
        self.assertEqual(stretches_of(chart=Chart(FORM, ((A, C),), ((A, B),))), (("arrow", A, C), ("bow", A, B)))

    def test_without(self):
        random = seeded(19)
        for chart in list(small_charts(20, 40, 6, 4)) + [FULL, BIG]:
            every = lines(chart)
            gone = random.sample(every, random.randrange(0, len(every) + 1))
            left = [line for line in every if line not in gone]
            expected = Chart(
                chart.form, tuple(line[1:] for line in left if line[0] == "arrow"), tuple(line[1:] for line in left if line[0] == "bow"))
            for held in (gone, tuple(gone), gone + gone):
                self.assertTrue(same(without(chart, held), expected))
        self.assertEqual(without(stretches=[("bow", A, B)], chart=FULL), Chart(FORM, FULL.arrows, FULL.bows[1:]))
        both = Chart(FORM, ((A, B),), ((A, B),))
        self.assertEqual(without(both, (("arrow", A, B),)), Chart(FORM, (), ((A, B),)))
        self.assertEqual(without(both, (("bow", A, B),)), Chart(FORM, ((A, B),), ()))


class Ways(Case):
    def test_no_tuple_of_one_thing(self):
        for value in [None, (), [], [("arrow", A, C)], "way", 0, True, FULL]:
            self.fails(InvalidWay, -1, need_way, FULL, A, C, value)
            self.assertIs(is_way(FULL, A, C, value), False)

    def test_ways(self):
        right = [
            (A, C, (("arrow", A, C),)), (C, A, (("arrow", A, C),)), (A, B, (("bow", A, B),)), (B, A, (("bow", A, B),)),
            (A, C, (("bow", A, D), ("bow", C, D))), (A, C, (("bow", A, D), ("arrow", C, D))), (B, C, (("arrow", B, D), ("bow", C, D))),
            (B, C, (("arrow", B, D), ("arrow", C, D))), (A, B, (("arrow", A, B),)),
        ]
        for one, other, way in right:
            self.assertIsNone(need_way(FULL, one, other, way))
            self.assertIs(is_way(FULL, one, other, way), True)
        self.assertIsNone(need_way(value=right[0][2], other=C, one=A, chart=FULL))
        self.assertIs(is_way(value=right[0][2], other=C, one=A, chart=FULL), True)

    def test_first_wrong_thing(self):
        told = [
            (0, A, C, (None,)), (0, A, C, (["arrow", A, C],)), (0, A, C, (("arrow", C, A),)), (0, A, C, (("bow", A, C),)),
            (0, A, C, (("arrow", B, D),)), (1, A, C, (("arrow", A, C), ("bow", C, D))), (1, A, C, (("arrow", A, C), None)),
            (1, A, C, (("arrow", A, B), ("bow", C, D))), (1, A, C, (("bow", A, B), ("bow", A, B))),
            (1, A, D, (("arrow", A, C), ("arrow", C, D))), (1, D, A, (("arrow", C, D), ("arrow", A, C))),
            (1, D, C, (("arrow", B, D), ("bow", A, B))), (0, A, C, (("arrow", A, C, 1),)), (0, A, C, (("arrow", A),)),
            (0, B, C, (("arrow", A, C),)),
        ]
        for at, one, other, way in told:
            self.fails(InvalidWay, at, need_way, FULL, one, other, way)
            self.assertIs(is_way(FULL, one, other, way), False)

    def test_nothing_goes_on_from_the_end(self):
        chart = Chart(FORM, (), ((A, B), (B, C), (B, D), (C, D)))
        self.fails(InvalidWay, 1, need_way, chart, A, B, (("bow", A, B), ("bow", B, C)))
        self.fails(InvalidWay, 3, need_way, chart, A, D, (("bow", A, B), ("bow", B, C), ("bow", C, D), ("bow", B, D)))
        self.fails(InvalidWay, 1, need_way, chart, A, B, (("bow", A, B), ("bow", A, B)))

    def test_a_node_met_ahead(self):
        chart = Chart(FORM, (), ((A, B), (B, C), (B, D), (C, D)))
        self.fails(InvalidWay, 1, need_way, chart, A, D, (("bow", A, B), ("bow", A, B), ("bow", B, D)))
        way = (("bow", A, B), ("bow", B, C), ("bow", C, D))
        self.assertIsNone(need_way(chart, A, D, way))
        ring = Chart(FORM, (), ((A, B), (A, C), (B, C), (C, D)))
        self.fails(InvalidWay, 2, need_way, ring, A, D, (("bow", A, B), ("bow", B, C), ("bow", A, C)))

    def test_does_not_come_to_the_end(self):
        chart = Chart(FORM, ((A, C),), ((A, B), (B, C)))
        self.fails(InvalidWay, 1, need_way, chart, A, D, (("arrow", A, C),))
        self.fails(InvalidWay, 2, need_way, chart, A, D, (("bow", A, B), ("bow", B, C)))

    def test_any_values(self):
        way = (("bow", A, D), ("arrow", C, D))
        longer = (("bow", A, B), ("bow", B, C), ("bow", C, D))
        chain = Chart(FORM, ((A, B),), ((A, B), (B, C), (C, D)))
        for chart, one, other, right in ((FULL, A, C, way), (chain, A, D, longer), (FULL, A, C, (("arrow", A, C),))):
            for value in any_values() + list(mutants(right)) + [deep(right), right * 2]:
                at = fault(chart, one, other, value)
                self.assertIs(is_way(chart, one, other, value), at is None)
                if at is None:
                    self.assertIsNone(need_way(chart, one, other, value))
                else:
                    self.fails(InvalidWay, at, need_way, chart, one, other, value)

    def test_rows_of_stretches(self):
        for chart in list(small_charts(21, 6)) + [FULL]:
            nodes = all_nodes(chart.form)
            for some in itertools.chain.from_iterable(itertools.product(lines(chart), repeat=many) for many in (1, 2, 3)):
                for one, other in ((nodes[0], nodes[-1]), (nodes[1], nodes[0])):
                    at = fault(chart, one, other, some)
                    if at is None:
                        self.assertIs(is_way(chart, one, other, some), True)
                    else:
                        self.fails(InvalidWay, at, need_way, chart, one, other, some)

    def test_stops_and_turned(self):
        for chart in list(small_charts(22, 25, 3, 4)) + [FULL]:
            for one, other in itertools.permutations(all_nodes(chart.form), 2):
                for way in ways_between(chart, one, other):
                    stops = stops_of(way, one)
                    self.assertEqual((stops[0], stops[-1], len(stops)), (one, other, len(way) + 1))
                    for at, line in enumerate(way):
                        self.assertEqual(set(stops[at:at + 2]), set(line[1:]))
                    self.assertTrue(same(turned_way(way), tuple(reversed(way))))
                    self.assertIs(is_way(chart, other, one, turned_way(way)), True)
                    self.assertTrue(same(stops_of(turned_way(way), other), tuple(reversed(stops))))
                    self.assertTrue(all(line[0] == "bow" for line in way[1:-1]))
        self.assertEqual(stops_of(one=A, way=(("arrow", A, C),)), (A, C))
        self.assertEqual(turned_way(way=(("arrow", A, C),)), (("arrow", A, C),))


class Between(Case):
    def test_by_trying_all(self):
        for chart in list(small_charts(23, 45)) + [Chart(FORM, ((A, C),), ((A, B), (B, C), (C, D)))]:
            joined = []
            for one, other in itertools.permutations(all_nodes(chart.form), 2):
                ways = all_ways(chart, one, other)
                self.assertTrue(same(ways_between(chart, one, other), tuple(ways)))
                least = min(ways, key=lambda way: (len(way), way)) if ways else None
                self.assertTrue(same(way_between(chart, one, other), least))
                if ways and one < other:
                    joined.append((one, other))
            self.assertTrue(same(joined_pairs(chart), tuple(sorted(joined))))
            owners = [name for name in names(chart.form) if (("a", name), ("b", name)) in joined]
            self.assertTrue(same(own_ways(chart), tuple(owners)))
            for name in names(chart.form):
                self.assertTrue(same(way_of(chart, name), way_between(chart, ("a", name), ("b", name))))

    def test_the_least_of_the_shortest(self):
        random = seeded(24)
        for _ in range(60):
            chart = random_chart(random, random_form(random, 5, 2), random.randrange(4, 16), random.randrange(3, 9))
            for one, other in itertools.permutations(all_nodes(chart.form), 2):
                ways = ways_between(chart, one, other)
                self.assertEqual(list(ways), sorted(set(ways)))
                self.assertTrue(all(is_way(chart, one, other, way) for way in ways))
                least = min(ways, key=lambda way: (len(way), way)) if ways else None
                self.assertTrue(same(way_between(chart, one, other), least))
                self.assertEqual(sorted(map(turned_way, ways)), list(ways_between(chart, other, one)))

    def test_by_names(self):
        self.assertEqual(ways_between(other=B, one=A, chart=FULL), ways_between(FULL, A, B))
        self.assertEqual(way_between(other=B, one=A, chart=FULL), (("arrow", A, B),))
        self.assertEqual(way_of(name="debts", chart=FULL), (("arrow", A, C),))
        self.assertEqual(own_ways(chart=FULL), ("debts", "earns"))
        self.assertEqual(joined_pairs(chart=Chart(FORM, ((A, C),), ())), ((A, C),))
        self.assertEqual(joined_pairs(chart=EMPTY), ())

    def test_big_charts(self):
        form = BIG.form
        many = 0
        for one in "abcde":
            ways = ways_between(BIG, ("a", one), ("b", one))
            many = max(many, len(ways))
            self.assertTrue(all(is_way(BIG, ("a", one), ("b", one), way) for way in ways))
        self.assertGreater(many, 0)
        self.assertEqual(own_ways(BIG), tuple(way for way in names(form) if ways_between(BIG, ("a", way), ("b", way))))

    def test_no_such_name(self):
        for value in any_values():
            if value in ("debts", "earns"):
                continue
            with self.assertRaises(NoName) as held:
                way_of(FULL, value)
            self.assertIs(held.exception.name, value)

    def test_an_arrow_or_a_bow_more_leaves_each_way_a_way(self):
        for chart in small_charts(25, 15):
            nodes = all_nodes(chart.form)
            for start, end in itertools.permutations(nodes, 2):
                more = [with_bow(chart, start, end)] if tuple(sorted((start, end))) not in chart.bows else []
                try:
                    more.append(with_arrow(chart, start, end))
                except Refused:
                    pass
                for wider in more:
                    for one, other in itertools.combinations(nodes, 2):
                        self.assertTrue(set(ways_between(chart, one, other)) <= set(ways_between(wider, one, other)))

    def test_an_own_way_stays_in_its_group(self):
        for chart in small_charts(26, 60, 5, 4):
            for group in groups_of(chart):
                for name in group:
                    for way in ways_between(chart, ("a", name), ("b", name)):
                        self.assertTrue(all(stop[1] in group for stop in stops_of(way, ("a", name))))

    def test_form_of_one_question(self):
        form = Form((("a", 2),))
        one, other = ("a", "a"), ("b", "a")
        chart = Chart(form, ((one, other),), ((one, other),))
        self.assertEqual(ways_between(chart, one, other), ((("arrow", one, other),), (("bow", one, other),)))
        self.assertEqual(way_between(chart, one, other), (("arrow", one, other),))
        self.assertEqual(way_of(Chart(form, (), ()), "a"), None)
        self.assertEqual(own_ways(Chart(WIDE, (), ())), ())


if __name__ == "__main__":
    unittest.main()
