"""What the tests share: any values, values changed at one place, and random forms, books, charts and makers."""

import itertools
from fractions import Fraction
from random import Random

from whyblank.books import Book
from whyblank.charts import Chart
from whyblank.errors import InvalidForm, NoName
from whyblank.forms import Form
from whyblank.makers import Maker, choices, values_of
from whyblank.sheets import Sheets
from whyblank.summing import Factor
from whyblank.tallies import Tally

FORM = Form((("debts", 2), ("earns", 2)))
WIDE = Form((("debts", 2), ("drink", 3), ("pets", 2)))
HUGE = 10 ** 3999 + 7


def deep(thing, outer=tuple, depth=29):
    """A thing in a tuple or a list, in another one, and so on."""
    for _ in range(depth):
        thing = outer([thing])
    return thing


def any_values():
    """Values of all kinds that a function described for any value may be handed."""
    return [
        None, True, False, 0, 1, -1, 2, 3, 9, 10, HUGE, -HUGE, "", "a", "debts", "Debts", "a" * 8, "a" * 9, "?debts", "-", "\n",
        "\u00e4", "\u00b2", "debts 2", "arrow", "order", (), [], ((),), [()], ([],), (0,), (1,), (True,), (None,), ("a",),
        ("a", "debts"), ["a", "debts"], ("b", "debts"), ("a", "other"), ("a", "debts", "b"), (0, 1), [0, 1], (False, True),
        (1, 0), (0, 1, 0), (-1, 0), (-1, -1), (HUGE, 1), (1, HUGE), ("debts",), ["debts"], ("debts", "earns"), ("earns", "debts"),
        (("debts", 2), ("earns", 2)), Form(()), Form(None), FORM, Form([("debts", 2)]), (FORM,), (FORM, FORM), Book(FORM, ()),
        Book(None, None), Sheets(FORM, ()), Sheets(1, 2), Chart(FORM, (), ()), Chart(None, None, None), Chart(FORM, [], []),
        Maker(None, None, None), Maker(Chart(FORM, (), ()), (), ()), Factor((), (), ()), Tally(FORM, ()), Tally(FORM, None),
        InvalidForm(1), NoName("a"), deep(()), deep(0), deep("debts"), deep((), list), deep(FORM), deep((0, 1)),
        ("order", ()), ("ring", ()), ("ring", None), ["order", ()], ("arrow", ("a", "debts"), ("b", "debts")),
        ("bow", ("a", "debts"), ("b", "debts")), (("arrow", ("a", "debts"), ("b", "debts")),),
    ]


BAD = [
    None, True, False, 0, 1, -1, 2, 9, 10, HUGE, "", "debts", "zebra", (), [], FORM, Chart(FORM, (), ()), InvalidForm(0),
    deep(()), deep((), list), (0, 1), (False, True), (2, 4), (1, 0), (0, -1), ("a", "debts"), ("b", "earns"), (1, 1), (-1, 3),
]


def is_package_object(value):
    return value.__class__.__module__.startswith("whyblank.")


def mutants(value, bad=None):
    """The value changed at one place, in many ways: at any depth, within objects of the package, too."""
    bad = BAD if bad is None else bad
    for thing in bad:
        yield thing
    if isinstance(value, bool):
        yield int(value)
    elif isinstance(value, int):
        yield value + 1
        yield value - 1
        if value in (0, 1):
            yield bool(value)
    elif isinstance(value, str):
        yield value + "a"
        yield value.upper()
    elif isinstance(value, tuple):
        yield list(value)
        yield value + (0,)
        yield value[:-1]
        yield value[1:]
        yield value[::-1]
        yield value + value[-1:]
        for at, thing in enumerate(value):
            for other in mutants(thing, bad):
                yield value[:at] + (other,) + value[at + 1:]
    elif is_package_object(value):
        kept = vars(value)
        for name in kept:
            for other in mutants(kept[name], bad):
                yield value.__class__(**{**kept, name: other})


def same(one, other):
    """Whether two values are equal and of the same kinds, at any depth."""
    if one.__class__ is not other.__class__:
        return False
    if isinstance(one, (tuple, list)):
        return len(one) == len(other) and all(map(same, one, other))
    if isinstance(one, dict):
        return same(sorted(one.items()), sorted(other.items()))
    if is_package_object(one):
        return same(vars(one), vars(other))
    return one == other


def frac(pair):
    return Fraction(pair[0], pair[1])


def pair_of(one):
    one = Fraction(one)
    return (one.numerator, one.denominator)


def spread(random, many, parts=60, nought=False):
    """A tuple of so many shares, 1 together, with bottoms up to parts."""
    total = random.randrange(max(many, 1), parts + 1)
    if nought:
        cuts = sorted(random.randrange(0, total + 1) for _ in range(many - 1))
    else:
        cuts = sorted(random.sample(range(1, total), many - 1))
    ends = [0] + cuts + [total]
    return tuple(pair_of(Fraction(high - low, total)) for low, high in zip(ends, ends[1:]))


def random_form(random, most=3, answers=3):
    names = random.sample(["a", "bb", "cat", "debts", "earns", "z"], random.randrange(1, most + 1))
    return Form(tuple((name, random.randrange(2, answers + 1)) for name in sorted(names)))


def all_nodes(form):
    return [("a", name) for name, _ in form.questions] + [("b", name) for name, _ in form.questions]


def comes_to(arrows, start):
    """All nodes to which arrows lead from a node, over one at least."""
    found = set()
    fresh = [start]
    while fresh:
        here = fresh.pop()
        for one, other in arrows:
            if one == here and other not in found:
                found.add(other)
                fresh.append(other)
    return found


def random_chart(random, form, arrows=4, bows=2):
    nodes = all_nodes(form)
    held = []
    for _ in range(arrows):
        start, end = random.sample(nodes, 2)
        if not (start[0] == "b" and end[0] == "a") and (start, end) not in held and start not in comes_to(held, end):
            held.append((start, end))
    pairs = list(itertools.combinations(nodes, 2))
    return Chart(form, tuple(sorted(held)), tuple(sorted(random.sample(pairs, min(bows, len(pairs))))))


def random_maker(random, chart, nought=False, sides=3):
    coins = tuple(spread(random, random.randrange(1, sides + 1), 12, nought) for _ in chart.bows)
    tables = tuple(
        tuple(spread(random, values_of(chart.form, node), 12, nought) for _ in choices(chart, coins, node))
        for node in all_nodes(chart.form)
    )
    return Maker(chart, coins, tables)


def random_book(random, form, many=None):
    """A book with some lots and truths, or all of them."""
    places = [(lot, truth) for lot in subsets(names(form)) for truth in every_truth(form)]
    if many is not None:
        places = random.sample(places, min(many, len(places)))
    weights = [random.randrange(1, 20) for _ in places]
    rows = [(lot, truth, pair_of(Fraction(one, sum(weights)))) for (lot, truth), one in zip(places, weights)]
    return Book(form, tuple(sorted(rows)))


def random_sheets(random, form, many=None):
    found = every_sheet(form)
    if many is not None:
        found = sorted(random.sample(found, min(many, len(found))))
    weights = [random.randrange(1, 20) for _ in found]
    return Sheets(form, tuple((sheet, pair_of(Fraction(one, sum(weights)))) for sheet, one in zip(found, weights)))


def names(form):
    return [name for name, _ in form.questions]


def subsets(things):
    return sorted(tuple(some) for size in range(len(things) + 1) for some in itertools.combinations(things, size))


def every_truth(form):
    return list(itertools.product(*[range(many) for _, many in form.questions]))


def every_sheet(form):
    return list(itertools.product(*[range(-1, many) for _, many in form.questions]))


def blanked(form, lot, truth):
    return tuple(-1 if name in lot else answer for name, answer in zip(names(form), truth))


def seeded(number):
    return Random(number)
