"""Points [12] to [15]: charts."""

import itertools
import unittest

from checks import Case
from helpers import (
    FORM, HUGE, WIDE, all_nodes, any_values, comes_to, deep, mutants, names, random_chart, random_form, same, seeded,
)
from test_forms import fault as form_fault
from whyblank.books import Book
from whyblank.charts import (
    Chart, chart_part, check_order_or_ring, children, groups_of, is_chart, led_from, led_to, need_chart, nodes_of, order_of,
    order_or_ring, parents, partners, with_arrow, with_bow,
)
from whyblank.errors import InvalidChart, Refused
from whyblank.forms import Form

A, B, C, D = ("a", "debts"), ("a", "earns"), ("b", "debts"), ("b", "earns")
EMPTY = Chart(FORM, (), ())
FULL = Chart(FORM, ((A, B), (A, C), (B, D), (C, D)), ((A, B), (A, D), (C, D)))
BIG = Chart(
    Form(tuple((letter, 9) for letter in "abcdefgh")),
    tuple(sorted((("a", one), ("b", other)) for one, other in itertools.product("abcde", "efgh"))),
    tuple(itertools.combinations([("b", letter) for letter in "abcde"], 2)),
)


def is_node(form, value):
    return any(same(value, node) for node in all_nodes(form))


def fault(value):
    """What is wrong with any value as a chart, told apart from the package."""
    if type(value) is not Chart or form_fault(value.form) is not None:
        return -1
    if type(value.arrows) is not tuple or type(value.bows) is not tuple:
        return -1
    for kind, lines in enumerate((value.arrows, value.bows)):
        for at, one in enumerate(lines):
            if type(one) is not tuple or len(one) != 2 or not is_node(value.form, one[0]) or not is_node(value.form, one[1]):
                return (kind, at)
            if one[0] == one[1] or (at and not lines[at - 1] < one):
                return (kind, at)
            if kind == 0 and (one[0][0] > one[1][0] or one[0] in comes_to(lines[:at + 1], one[0])):
                return (kind, at)
            if kind == 1 and not one[0] < one[1]:
                return (kind, at)
    return None


class Charts(Case):
    def test_a_chart_checks_nothing(self):
        for value in any_values():
            chart = Chart(value, value, bows=value)
            self.assertTrue(same(chart.form, value) and same(chart.arrows, value) and same(chart.bows, value))
            self.assertEqual(sorted(vars(chart)), ["arrows", "bows", "form"])

    def test_equal(self):
        self.assertEqual(FULL, Chart(Form(FORM.questions), FULL.arrows, FULL.bows))
        self.assertNotEqual(FULL, Chart(WIDE, FULL.arrows, FULL.bows))
        self.assertNotEqual(FULL, Chart(FORM, FULL.arrows[1:], FULL.bows))
        self.assertNotEqual(FULL, Chart(FORM, FULL.arrows, FULL.bows[1:]))
        for value in any_values():
            self.assertEqual(EMPTY == value, same(EMPTY, value))
        self.assertFalse(EMPTY == Book(FORM, ()))

    def test_nodes(self):
        self.assertTrue(same(nodes_of(FORM), (A, B, C, D)))
        self.assertTrue(same(nodes_of(form=WIDE), tuple(all_nodes(WIDE))))
        self.assertEqual(list(nodes_of(WIDE)), sorted(nodes_of(WIDE)))

    def test_charts(self):
        for chart in (EMPTY, FULL, BIG, Chart(Form((("a", 2),)), ((("a", "a"), ("b", "a")),), ((("a", "a"), ("b", "a")),))):
            self.assertIsNone(need_chart(chart))
            self.assertIs(is_chart(chart), True)
        self.assertIsNone(need_chart(value=FULL))
        self.assertIs(is_chart(value=FULL), True)

    def test_no_chart_of_a_form_and_two_tuples(self):
        wrong = [None, FORM, (FORM, (), ()), Chart(None, (), ()), Chart(Form(()), (), ()), Chart(FORM, [], ()), Chart(FORM, (), [])]
        for value in wrong + [Chart(FORM, None, ()), Chart(FORM, (), None), Chart(EMPTY, (), ()), deep(EMPTY), Book(FORM, ()), HUGE]:
            self.fails(InvalidChart, -1, need_chart, value)
            self.assertIs(is_chart(value), False)

    def test_wrong_arrows(self):
        wrong = [
            None, (), (A,), (A, B, C), [A, B], (list(A), B), (A, list(B)), (A, A), (C, C), (C, A), (C, B), (D, A), (A, ("a", "pets")),
            (A, ("c", "debts")), (A, ("a", FORM)), ("a", "debts"), (A, ("a", "earns", "a")), (A, None), (A, True), (deep(A), B),
        ]
        for one in wrong:
            self.fails(InvalidChart, (0, 0), need_chart, Chart(FORM, (one,), ()))
            self.fails(InvalidChart, (0, 1), need_chart, Chart(FORM, ((A, B), one), ()))
            self.fails(InvalidChart, (0, 0), need_chart, Chart(FORM, (one, one), (None,)))

    def test_arrows_not_above(self):
        self.fails(InvalidChart, (0, 1), need_chart, Chart(FORM, ((A, C), (A, B)), ()))
        self.fails(InvalidChart, (0, 1), need_chart, Chart(FORM, ((A, C), (A, C)), ()))
        self.fails(InvalidChart, (0, 2), need_chart, Chart(FORM, ((A, B), (A, C), (A, C)), (None,)))

    def test_rings(self):
        self.fails(InvalidChart, (0, 1), need_chart, Chart(FORM, ((A, B), (B, A)), ()))
        self.fails(InvalidChart, (0, 3), need_chart, Chart(FORM, ((A, B), (A, C), (C, D), (D, C)), ()))
        one, two, three = [("a", name) for name in names(WIDE)]
        self.fails(InvalidChart, (0, 2), need_chart, Chart(WIDE, ((one, two), (two, three), (three, one)), ()))
        one, two, three = [("b", name) for name in names(WIDE)]
        self.fails(InvalidChart, (0, 2), need_chart, Chart(WIDE, ((one, three), (two, one), (three, two)), ()))

    def test_wrong_bows(self):
        for one in [None, (), (A,), (A, B, C), [A, B], (A, A), (B, A), (D, A), (A, ("a", "pets")), (A, None), (list(A), B), (A, True)]:
            self.fails(InvalidChart, (1, 0), need_chart, Chart(FORM, (), (one,)))
            self.fails(InvalidChart, (1, 1), need_chart, Chart(FORM, FULL.arrows, ((A, B), one)))
        self.fails(InvalidChart, (1, 1), need_chart, Chart(FORM, (), ((A, C), (A, B))))
        self.fails(InvalidChart, (1, 1), need_chart, Chart(FORM, (), ((A, C), (A, C))))

    def test_bows_may_go_from_a_blank_to_an_answer(self):
        self.assertIs(is_chart(Chart(FORM, (), ((A, C), (A, D), (B, C), (C, D)))), True)

    def test_arrows_go_first(self):
        self.fails(InvalidChart, (0, 1), need_chart, Chart(FORM, ((A, B), (C, A)), ((B, A),)))

    def test_any_values(self):
        chart = Chart(WIDE, ((("a", "debts"), ("b", "drink")),), ((("a", "debts"), ("b", "debts")),))
        for value in any_values() + list(mutants(FULL)) + list(mutants(chart)) + list(mutants(EMPTY)):
            self.assertEqual(self.need_and_is(need_chart, is_chart, InvalidChart, value), fault(value))


class Around(Case):
    def charts(self):
        random = seeded(11)
        for _ in range(80):
            yield random_chart(random, random_form(random, 4, 3), random.randrange(0, 10), random.randrange(0, 5))
        yield from (EMPTY, FULL, BIG)

    def test_parents_children_partners(self):
        for chart in self.charts():
            for node in all_nodes(chart.form):
                self.assertTrue(same(parents(chart, node), tuple(sorted(one for one, other in chart.arrows if other == node))))
                self.assertTrue(same(children(chart, node), tuple(sorted(other for one, other in chart.arrows if one == node))))
                ends = {other for bow in chart.bows for other in bow if node in bow and other != node}
                self.assertTrue(same(partners(chart, node), tuple(sorted(ends))))
        self.assertEqual(parents(node=D, chart=FULL), (B, C))
        self.assertEqual(children(node=A, chart=FULL), (B, C))
        self.assertEqual(partners(node=A, chart=FULL), (B, D))

    def test_led(self):
        random = seeded(12)
        for chart in self.charts():
            nodes = all_nodes(chart.form)
            some = random.sample(nodes, random.randrange(0, len(nodes)))
            after = set(some)
            for node in some:
                after |= comes_to(chart.arrows, node)
            before = {node for node in nodes if node in some or comes_to(chart.arrows, node) & set(some)}
            for held in (some, tuple(some), some + some):
                self.assertTrue(same(led_from(chart, held), tuple(sorted(after))))
                self.assertTrue(same(led_to(chart, held), tuple(sorted(before))))
        self.assertEqual(led_from(nodes=(), chart=FULL), ())
        self.assertEqual(led_to(nodes=[B], chart=FULL), (A, B))

    def test_order_of(self):
        for chart in self.charts():
            order = order_of(chart)
            left = all_nodes(chart.form)
            for node in order:
                ready = [one for one in left if not any(start in left for start, end in chart.arrows if end == one)]
                self.assertEqual(node, min(ready))
                left.remove(node)
            self.assertEqual(left, [])
            self.assertIs(order.__class__, tuple)
        self.assertEqual(order_of(chart=EMPTY), (A, B, C, D))

    def test_objects_have_no_length(self):
        with self.assertRaises(TypeError):
            len(EMPTY)
        with self.assertRaises(TypeError):
            iter(EMPTY)


def is_order_or_ring(form, arrows, value):
    """What `check_order_or_ring` should tell, told apart from the package."""
    if type(value) is not tuple or len(value) != 2 or type(value[1]) is not tuple:
        return False
    if not all(is_node(form, node) for node in value[1]) or len(set(value[1])) != len(value[1]):
        return False
    if value[0] == "order":
        place = {node: at for at, node in enumerate(value[1])}
        return len(place) == len(all_nodes(form)) and all(place[start] < place[end] for start, end in arrows)
    if value[0] == "ring":
        many = len(value[1])
        return many > 1 and all((value[1][at], value[1][(at + 1) % many]) in arrows for at in range(many))
    return False


class Orders(Case):
    def rounds(self):
        random = seeded(13)
        for _ in range(150):
            form = random_form(random, 4, 3)
            pairs = list(itertools.permutations(all_nodes(form), 2))
            arrows = [random.choice(pairs) for _ in range(random.randrange(0, random.choice([4, 8, 16, 30])))]
            yield form, tuple(arrows)

    def test_some_order_or_some_ring(self):
        kinds = set()
        for form, arrows in self.rounds():
            found = order_or_ring(form, arrows)
            self.assertTrue(is_order_or_ring(form, arrows, found), (arrows, found))
            self.assertIs(check_order_or_ring(form, arrows, found), True)
            goes_round = any(node in comes_to(arrows, node) for node in all_nodes(form))
            self.assertEqual(found[0], "ring" if goes_round else "order")
            kinds.add(found[0])
        self.assertEqual(kinds, {"ring", "order"})
        self.assertEqual(order_or_ring(arrows=(), form=FORM)[0], "order")

    def test_never_both(self):
        for arrows in ((), ((A, B),), ((A, B), (B, A)), ((A, B), (B, D), (D, A), (C, A)), ((D, C), (C, D)), ((D, A), (A, C))):
            orders = [one for one in itertools.permutations(nodes_of(FORM)) if check_order_or_ring(FORM, arrows, ("order", one))]
            rings = [
                one for many in range(5) for one in itertools.permutations(nodes_of(FORM), many)
                if check_order_or_ring(FORM, arrows, ("ring", one))
            ]
            self.assertEqual(len(orders) == 0, len(rings) > 0)

    def test_wrong_orders_and_rings(self):
        ring = ((A, B), (B, A))
        wrong = [
            ("order", (A, B, C)), ("order", (A, B, C, D, D)), ("order", (A, B, C, C)), ("order", (B, A, C, D)), ["order", (A, B, C, D)],
            ("order", [A, B, C, D]), ("order", (A, B, C, D), 1), ("other", (A, B, C, D)), ("ring", (A, B)), ("ring", ()), ("ring", (A,)),
            ("order", (A, B, C, None)), ("order", (A, B, C, list(D))), (None, (A, B, C, D)), ("order",), "order", ("order", FORM),
        ]
        for value in wrong:
            self.assertIs(check_order_or_ring(FORM, ((A, B),), value), False, value)
        self.assertIs(check_order_or_ring(value=("order", (A, B, C, D)), arrows=((A, B),), form=FORM), True)
        for value in [("ring", (A, B, A, B)), ("ring", (A,)), ("ring", ()), ("ring", [A, B]), ("ring", (A, B, C)), ("order", (A, B, C, D))]:
            self.assertIs(check_order_or_ring(FORM, ring, value), False, value)
        for value in [("ring", (A, B)), ("ring", (B, A))]:
            self.assertIs(check_order_or_ring(FORM, ring, value), True)

    def test_any_values(self):
        for arrows in ((), ((A, B),), ((A, B), (B, A)), ((A, B), (B, C), (C, A))):
            values = any_values() + list(mutants(("order", (A, B, C, D)))) + list(mutants(("ring", (A, B)))) + list(
                mutants(("ring", (A, B, C))))
            for value in values:
                told = check_order_or_ring(FORM, arrows, value)
                self.assertIs(told, is_order_or_ring(FORM, arrows, value), value)


class More(Case):
    def test_with_arrow_and_bow(self):
        random = seeded(14)
        for _ in range(60):
            chart = random_chart(random, random_form(random, 3, 3), random.randrange(0, 7), random.randrange(0, 4))
            for one, other in itertools.permutations(all_nodes(chart.form), 2):
                self.one_arrow(chart, one, other)
                bow = (min(one, other), max(one, other))
                if bow in chart.bows:
                    self.fails(Refused, "there", with_bow, chart, one, other)
                else:
                    found = with_bow(chart, one, other)
                    self.assertTrue(same(found, Chart(chart.form, chart.arrows, tuple(sorted(chart.bows + (bow,))))))
                    self.assertIs(is_chart(found), True)

    def one_arrow(self, chart, start, end):
        if start[0] > end[0]:
            self.fails(Refused, "back", with_arrow, chart, start, end)
        elif (start, end) in chart.arrows:
            self.fails(Refused, "there", with_arrow, chart, start, end)
        elif start in comes_to(chart.arrows, end):
            self.fails(Refused, "ring", with_arrow, chart, start, end)
        else:
            found = with_arrow(chart, start, end)
            self.assertTrue(same(found, Chart(chart.form, tuple(sorted(chart.arrows + ((start, end),))), chart.bows)))
            self.assertIs(is_chart(found), True)

    def test_by_names(self):
        self.assertEqual(with_arrow(end=B, start=A, chart=EMPTY), Chart(FORM, ((A, B),), ()))
        self.assertEqual(with_bow(other=A, one=B, chart=EMPTY), Chart(FORM, (), ((A, B),)))
        self.assertEqual(EMPTY, Chart(FORM, (), ()))

    def test_chart_part(self):
        random = seeded(15)
        for _ in range(60):
            chart = random_chart(random, random_form(random, 4, 4), random.randrange(0, 9), random.randrange(0, 5))
            every = names(chart.form)
            some = random.sample(every, random.randrange(1, len(every) + 1))
            expected = Chart(
                Form(tuple(one for one in chart.form.questions if one[0] in some)),
                tuple(one for one in chart.arrows if one[0][1] in some and one[1][1] in some),
                tuple(one for one in chart.bows if one[0][1] in some and one[1][1] in some),
            )
            for held in (some, tuple(some), some + some):
                self.assertTrue(same(chart_part(chart, held), expected))
            self.assertIs(is_chart(expected), True)
        self.assertEqual(chart_part(names=["earns"], chart=FULL), Chart(Form((("earns", 2),)), ((B, D),), ()))
        self.assertEqual(chart_part(FULL, ("earns", "debts")), FULL)

    def test_groups(self):
        random = seeded(16)
        for _ in range(80):
            chart = random_chart(random, random_form(random, 5, 3), random.randrange(0, 4), random.randrange(0, 3))
            groups = groups_of(chart)
            heaps = [{name} for name in names(chart.form)]
            for one, other in chart.arrows + chart.bows:
                joined = [heap for heap in heaps if one[1] in heap or other[1] in heap]
                heaps = [heap for heap in heaps if heap not in joined] + [set().union(*joined)]
            self.assertTrue(same(groups, tuple(sorted(tuple(sorted(heap)) for heap in heaps))))
            parts = [chart_part(chart, group) for group in groups]
            self.assertEqual(sorted(one for part in parts for one in part.form.questions), list(chart.form.questions))
            self.assertEqual(sorted(one for part in parts for one in part.arrows), list(chart.arrows))
            self.assertEqual(sorted(one for part in parts for one in part.bows), list(chart.bows))
        self.assertEqual(groups_of(chart=EMPTY), (("debts",), ("earns",)))
        self.assertEqual(groups_of(Chart(FORM, (), ((A, D),))), (("debts", "earns"),))
        self.assertEqual(groups_of(Chart(FORM, ((A, C),), ((B, D),))), (("debts",), ("earns",)))
        form = Form(tuple((letter, 2) for letter in "abcd"))
        chart = Chart(form, ((("a", "a"), ("b", "d")),), ((("a", "b"), ("b", "c")),))
        self.assertEqual(groups_of(chart), (("a", "d"), ("b", "c")))


if __name__ == "__main__":
    unittest.main()
