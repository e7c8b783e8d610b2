"""Points [21] and [22]: ways with no stretch in common, and fewest cuts."""

import itertools
import unittest

from checks import Case
from helpers import FORM, WIDE, all_nodes, any_values, deep, mutants, random_chart, same, seeded
from test_charts import A, B, BIG, C, D, EMPTY, FULL
from test_ways import all_ways, fault, lines, small_charts
from whyblank.charts import Chart
from whyblank.cuts import apart_ways, check_cut, fewest_cut, way_sent
from whyblank.forms import Form
from whyblank.ways import is_way, way_between, ways_between, without

PAIR = (((("arrow", A, C),),), (("arrow", A, C),))


def most_apart(ways):
    """How many of some ways can be chosen with no stretch in common, by trying."""
    best, begun = 0, [(0, 0, frozenset())]
    while begun:
        at, many, used = begun.pop()
        best = max(best, many)
        for after in range(at, len(ways)):
            if not used & set(ways[after]):
                begun.append((after + 1, many + 1, used | set(ways[after])))
    return best


def fewest(chart, one, other):
    """How many stretches a fewest cut has, by trying."""
    ways = [set(way) for way in all_ways(chart, one, other)]
    for many in range(len(lines(chart)) + 1):
        for some in itertools.combinations(lines(chart), many):
            if all(way & set(some) for way in ways):
                return many
    return None


def is_right(chart, one, other, value):
    """Whether any value is a pair of ways that are apart, and of a cut of as many, told apart from the package."""
    if type(value) is not tuple or len(value) != 2 or type(value[0]) is not tuple or type(value[1]) is not tuple:
        return False
    if any(fault(chart, one, other, way) is not None for way in value[0]):
        return False
    used = [line for way in value[0] for line in way]
    if len(used) != len(set(used)):
        return False
    if not all(any(same(line, known) for known in lines(chart)) for line in value[1]) or len(set(value[1])) != len(value[1]):
        return False
    left = without(chart, value[1])
    return len(value[0]) == len(value[1]) and ways_between(left, one, other) == ()


def pairs(chart):
    return list(itertools.permutations(all_nodes(chart.form), 2))


class Cuts(Case):
    def judged(self, chart, one, other):
        """Both are as told, and as many: so neither more ways nor a lesser cut can be."""
        ways, cut = apart_ways(chart, one, other), fewest_cut(chart, one, other)
        self.assertIs(is_right(chart, one, other, (ways, cut)), True)
        self.assertIs(check_cut(chart, one, other, (ways, cut)), True)
        return len(ways)

    def test_by_trying(self):
        random = seeded(250)
        most = 0
        for chart in list(small_charts(251, 40, 4, 3)) + [FULL, EMPTY]:
            for one, other in random.sample(pairs(chart), min(4, len(pairs(chart)))):
                many = self.judged(chart, one, other)
                most = max(most, many)
                if len(lines(chart)) < 7:
                    self.assertEqual(many, most_apart(all_ways(chart, one, other)))
                    self.assertEqual(many, fewest(chart, one, other))
        self.assertGreater(most, 1)

    def test_many_charts(self):
        random = seeded(252)
        found = set()
        for _ in range(150):
            form = random.choice([FORM, WIDE, Form(tuple((letter, 2) for letter in "abcd"))])
            chart = random_chart(random, form, random.randrange(20), random.randrange(11))
            for one, other in random.sample(pairs(chart), 4):
                found.add(self.judged(chart, one, other))
        self.assertGreater(len(found), 3)

    def test_every_pair(self):
        for chart in (FULL, Chart(FORM, ((A, B), (A, C), (A, D), (B, D), (C, D)), tuple(itertools.combinations((A, B, C, D), 2)))):
            for one, other in pairs(chart):
                self.assertEqual(self.judged(chart, one, other), most_apart(list(ways_between(chart, one, other))))

    def test_without_a_way(self):
        for chart in (EMPTY, Chart(FORM, ((A, B), (A, C)), ()), Chart(FORM, ((A, D), (B, D)), ())):
            for one, other in pairs(chart):
                if way_between(chart, one, other) is None:
                    self.assertTrue(same(apart_ways(chart, one, other), ()))
                    self.assertTrue(same(fewest_cut(chart, one, other), ()))
                    self.assertIs(check_cut(chart, one, other, ((), ())), True)
                else:
                    self.assertIs(check_cut(chart, one, other, ((), ())), False)

    def test_stretches_that_no_way_has(self):
        """An arrow away from an inner stop has no head there."""
        chart = Chart(FORM, ((A, B), (A, D), (B, D)), ())
        self.assertEqual(apart_ways(chart=chart, one=A, other=D), ((("arrow", A, D),),))
        self.assertEqual(fewest_cut(chart=chart, one=A, other=D), (("arrow", A, D),))
        self.assertEqual(len(apart_ways(Chart(FORM, ((A, D), (B, D)), ((A, B),)), A, D)), 1)
        self.assertEqual(len(apart_ways(Chart(FORM, ((A, D), (D, C)), ((A, C), (A, D), (C, D))), A, D)), 3)

    def test_an_arrow_and_a_bow_side_by_side(self):
        chart = Chart(FORM, ((A, C), (A, D)), ((A, C), (A, D), (C, D)))
        self.assertEqual(self.judged(chart, A, D), 3)
        self.assertEqual(self.judged(chart, A, C), 3)
        self.assertEqual(self.judged(Chart(FORM, ((A, C),), ((A, C), (C, D))), A, D), 1)

    def test_ways_that_take_over_stretches(self):
        """The shortest way blocks two others: what was sent has to be sent otherwise."""
        form = Form(tuple((letter, 2) for letter in "abcdef"))
        a, b, c, d, e, f = [("b", letter) for letter in "abcdef"]
        bows = ((a, b), (a, c), (b, e), (c, d), (b, d), (d, f), (e, f))
        chart = Chart(form, (), tuple(sorted(tuple(sorted(bow)) for bow in bows)))
        self.assertEqual(way_between(chart, a, f)[1], ("bow", b, d))
        self.assertEqual(self.judged(chart, a, f), 2)

    def test_round_trips_are_left_out(self):
        a, b, c, d, e = [("b", letter) for letter in "abcde"]
        trip = [("bow", a, b), ("bow", b, c), ("bow", c, d), ("bow", b, d), ("bow", b, e)]
        sent = dict(zip(trip, (a, b, c, d, b)))
        self.assertEqual(way_sent(sent, a, e), (("bow", a, b), ("bow", b, e)))
        self.assertIsNone(way_sent(sent, a, e))
        back = {("bow", a, c): a, ("bow", b, c): c, ("bow", a, b): b, ("bow", a, e): a}
        self.assertEqual(way_sent(back, a, e), (("bow", a, e),))

    def test_great_charts(self):
        for one, other in random_pairs(BIG, 253, 12):
            self.judged(BIG, one, other)
        form = Form(tuple((letter, 9) for letter in "abcdefgh"))
        random = seeded(254)
        for _ in range(12):
            chart = random_chart(random, form, 20, 10)
            for one, other in random.sample(pairs(chart), 5):
                self.judged(chart, one, other)


def random_pairs(chart, number, many):
    return seeded(number).sample(pairs(chart), many)


class Checked(Case):
    def test_other_pairs(self):
        random = seeded(255)
        for chart in list(small_charts(256, 40, 4, 3)) + [FULL]:
            one, other = random.choice(pairs(chart))
            ways = list(ways_between(chart, one, other))
            for _ in range(10):
                chosen = tuple(random.sample(ways, random.randrange(0, min(3, len(ways)) + 1)))
                cut = tuple(random.sample(lines(chart), random.randrange(0, min(3, len(lines(chart))) + 1)))
                for value in ((chosen, cut), (chosen + chosen, cut + cut), (chosen, cut + cut[:1]), (cut, chosen), [chosen, cut], (list(chosen), cut)):
                    self.assertIs(check_cut(chart, one, other, value), is_right(chart, one, other, value))
        self.assertIs(check_cut(value=PAIR, other=C, one=A, chart=Chart(FORM, ((A, C),), ())), True)
        self.assertIs(check_cut(Chart(FORM, ((A, C),), ()), C, A, ((), ())), False)

    def test_any_values(self):
        cases = [
            (Chart(FORM, ((A, C),), ((C, D),)), A, D), (Chart(FORM, ((A, C),), ()), A, C), (Chart(FORM, ((A, C),), ()), C, A), (EMPTY, A, D),
            (Chart(FORM, ((A, C), (B, C)), ((A, C),)), A, C),
        ]
        for chart, one, other in cases:
            right = (apart_ways(chart, one, other), fewest_cut(chart, one, other))
            values = any_values() + list(mutants(right)) + [deep(right), PAIR, (right[0], (("bow", A, D),)), (right[0], right[1] + right[1])]
            values += [(right[0],), right + ((),), list(right), (list(right[0]), right[1]), (right[0], list(right[1]))]
            for value in values:
                self.assertIs(check_cut(chart, one, other, value), is_right_any(chart, one, other, value), value)

    def test_more_stretches_than_ways(self):
        chart = Chart(FORM, ((A, C), (B, C)), ((A, C), (C, D)))
        ways, cut = apart_ways(chart, A, C), fewest_cut(chart, A, C)
        self.assertEqual(len(ways), 2)
        self.assertIs(check_cut(chart, A, C, (ways[:1], cut)), False)
        self.assertIs(check_cut(chart, A, C, (ways, cut + (("bow", C, D),))), False)
        self.assertIs(check_cut(chart, A, C, (ways[:1], cut[:1])), False)
        self.assertIs(check_cut(chart, A, C, (ways[::-1], cut[::-1])), True)
        self.assertTrue(all(is_way(chart, A, C, way) for way in ways))


def is_right_any(chart, one, other, value):
    """As `is_right`, where things may be no keys of sets."""
    try:
        return is_right(chart, one, other, value)
    except TypeError:
        return False


if __name__ == "__main__":
    unittest.main()
