"""Point [20]: closed lots."""

import itertools
import unittest

from checks import Case
from helpers import FORM, all_nodes, any_values, deep, mutants, names, random_chart, random_form, same, seeded, subsets
from test_charts import A, B, BIG, C, D, EMPTY, FULL
from whyblank.charts import Chart
from whyblank.closedlots import check_closed, closed_between, closed_lot, is_closed
from whyblank.errors import NoName
from whyblank.ways import way_between, way_of


def near(chart, node, with_children):
    """The partners of a node, and its children, too, if they are asked for."""
    found = {other for bow in chart.bows for other in bow if node in bow and other != node}
    if with_children:
        found |= {end for start, end in chart.arrows if start == node}
    return found


def tells_closed(chart, one, other, value):
    """Whether any value is a closed lot, told apart from the package."""
    nodes = all_nodes(chart.form)
    if type(value) is not tuple or not all(any(same(thing, node) for node in nodes) for thing in value):
        return False
    if list(value) != sorted(set(value)) or one in value or other in value:
        return False
    for pair in chart.arrows + chart.bows:
        if set(pair) == {one, other}:
            return False
    if not near(chart, one, True) <= set(value) or near(chart, other, True) & set(value):
        return False
    return all(near(chart, node, False) - {one} <= set(value) for node in value)


def charts(number, many):
    random = seeded(number)
    for _ in range(many):
        yield random_chart(random, random_form(random, 3, 2), random.randrange(0, 6), random.randrange(0, 4))


class Closed(Case):
    def test_by_trying_all_lots(self):
        for chart in list(charts(27, 40)) + [EMPTY, FULL]:
            nodes = all_nodes(chart.form)
            for one, other in itertools.permutations(nodes, 2):
                lots = [lot for lot in subsets(nodes) if tells_closed(chart, one, other, lot)]
                for lot in subsets(nodes):
                    self.assertIs(is_closed(chart, one, other, lot), lot in lots)
                least = min(lots, key=len) if lots else None
                self.assertTrue(same(closed_between(chart, one, other), least))
                self.assertEqual(least is None, way_between(chart, one, other) is not None)
                for lot in lots:
                    self.assertTrue(set(least) <= set(lot))

    def test_a_way_or_a_closed_lot(self):
        random = seeded(28)
        for _ in range(60):
            chart = random_chart(random, random_form(random, 6, 2), random.randrange(0, 20), random.randrange(0, 10))
            for one, other in itertools.permutations(all_nodes(chart.form), 2):
                lot, way = closed_between(chart, one, other), way_between(chart, one, other)
                self.assertEqual(lot is None, way is not None)
                if lot is not None:
                    self.assertTrue(tells_closed(chart, one, other, lot))
                    self.assertIs(is_closed(chart, one, other, lot), True)
        for one in "abcdefgh":
            self.assertEqual(closed_lot(BIG, one) is None, way_of(BIG, one) is not None)

    def test_of_a_question(self):
        for chart in charts(29, 60):
            for name in names(chart.form):
                lot = closed_lot(chart, name)
                self.assertTrue(same(lot, closed_between(chart, ("a", name), ("b", name))))
                self.assertEqual(lot is None, way_of(chart, name) is not None)
                for value in subsets(all_nodes(chart.form)):
                    self.assertIs(check_closed(chart, name, value), tells_closed(chart, ("a", name), ("b", name), value))

    def test_plain_cases(self):
        self.assertEqual(closed_lot(EMPTY, "debts"), ())
        self.assertEqual(closed_lot(chart=Chart(FORM, ((A, C),), ()), name="debts"), None)
        chart = Chart(FORM, ((A, B), (A, D)), ((C, D),))
        self.assertEqual(closed_lot(chart, "earns"), ())
        self.assertEqual(closed_lot(chart, "debts"), None)
        chart = Chart(FORM, ((A, D), (B, C)), ((A, B),))
        self.assertEqual(closed_lot(chart, "debts"), (B, D))
        chain = Chart(FORM, ((A, B),), ((B, D),))
        self.assertEqual(closed_lot(chain, "debts"), (B, D))
        self.assertIs(check_closed(chain, "debts", (B, D)), True)
        self.assertIs(check_closed(chain, "debts", (B,)), False)
        self.assertIs(check_closed(value=(B, D), name="debts", chart=chain), True)
        self.assertEqual(closed_between(other=C, one=A, chart=chain), (B, D))
        self.assertIs(is_closed(value=(B, D), other=C, one=A, chart=chain), True)

    def test_arrow_back_joins_both(self):
        chart = Chart(FORM, ((A, C),), ())
        self.assertIsNone(closed_between(chart, C, A))
        self.assertIs(is_closed(chart, C, A, ()), False)

    def test_wrong_lots(self):
        chain = Chart(FORM, ((A, B),), ((B, D),))
        for value in [None, [B, D], (D, B), (B, B, D), (A, B, D), (B, C, D), (B,), (D,), (), (list(B), D), (B, D, None), "lot", deep((B, D))]:
            self.assertIs(is_closed(chain, A, C, value), False, value)
            self.assertIs(check_closed(chain, "debts", value), False, value)

    def test_any_values(self):
        chain = Chart(FORM, ((A, B),), ((B, D),))
        for chart in (chain, EMPTY, FULL):
            for value in any_values() + list(mutants((B, D))) + list(mutants((A, B, D))):
                self.assertIs(is_closed(chart, A, C, value), tells_closed(chart, A, C, value))
                self.assertIs(check_closed(chart, "debts", value), tells_closed(chart, A, C, value))

    def test_no_such_name(self):
        for value in any_values():
            if value in ("debts", "earns"):
                continue
            for call, more in ((closed_lot, ()), (check_closed, (None,)), (check_closed, ((),))):
                with self.assertRaises(NoName) as held:
                    call(FULL, value, *more)
                self.assertIs(held.exception.name, value)


if __name__ == "__main__":
    unittest.main()
