"""What the tests share: any values, values changed at one place, and random forms, books, charts and makers."""

import itertools
from fractions import Fraction
from random import Random

from whyblank.asks import Ask
from whyblank.books import Book
from whyblank.bounds import Bounds
from whyblank.called import CalledSheets
from whyblank.charts import Chart
from whyblank.desk import Desk
from whyblank.errors import InvalidForm, NoName
from whyblank.forms import Form
from whyblank.judging import Apart, Told
from whyblank.kept import Kept
from whyblank.lotpapers import LotsApart, LotsTold
from whyblank.makers import Maker, choices, values_of
from whyblank.rowpapers import RowsApart, RowsTold
from whyblank.sheets import Sheets
from whyblank.study import Study
from whyblank.summing import Factor
from whyblank.tallies import Tally

FORM = Form((("debts", 2), ("earns", 2)))
WIDE = Form((("debts", 2), ("drink", 3), ("pets", 2)))
HUGE = 10 ** 3999 + 7


def deep(thing, outer=tuple, depth=29):
    """A thing in a tuple or a list, in another one, and so on."""
    for _ in range(depth):
        thing = outer([thing])
    return thing


def any_values():
    """Values of all kinds that a function described for any value may be handed."""
    return [
        None, True, False, 0, 1, -1, 2, 3, 9, 10, HUGE, -HUGE, "", "a", "debts", "Debts", "a" * 8, "a" * 9, "?debts", "-", "\n",
        "\u00e4", "\u00b2", "debts 2", "arrow", "order", (), [], ((),), [()], ([],), (0,), (1,), (True,), (None,), ("a",),
        ("a", "debts"), ["a", "debts"], ("b", "debts"), ("a", "other"), ("a", "debts", "b"), (0, 1), [0, 1], (False, True),
        (1, 0), (0, 1, 0), (-1, 0), (-1, -1), (HUGE, 1), (1, HUGE), ("debts",), ["debts"], ("debts", "earns"), ("earns", "debts"),
        (("debts", 2), ("earns", 2)), Form(()), Form(None), FORM, Form([("debts", 2)]), (FORM,), (FORM, FORM), Book(FORM, ()),
        Book(None, None), Sheets(FORM, ()), Sheets(1, 2), Chart(FORM, (), ()), Chart(None, None, None), Chart(FORM, [], []),
        Maker(None, None, None), Maker(Chart(FORM, (), ()), (), ()), Factor((), (), ()), Tally(FORM, ()), Tally(FORM, None),
        InvalidForm(1), NoName("a"), deep(()), deep(0), deep("debts"), deep((), list), deep(FORM), deep((0, 1)),
        ("order", ()), ("ring", ()), ("ring", None), ["order", ()], ("arrow", ("a", "debts"), ("b", "debts")),
        ("bow", ("a", "debts"), ("b", "debts")), (("arrow", ("a", "debts"), ("b", "debts")),),
        Ask(None, None), Ask(("number", 1), ("all",)), Ask(["number", 1], ("all",)), ("all",), ["all"], ("number", 1), ("number", True),
        ("is", "debts", 1), ("is", "debts", True), ("blank", "debts"), ("answer", "debts"), CalledSheets(FORM, (), ()),
        CalledSheets(None, None, None), Bounds(None, None, None, None), Bounds((0, 1), (1, 1), FORM, FORM), Kept(FORM),
        (Kept(FORM), Kept(FORM)), (("debts",), ()), (("debts",), ("earns",)), ((), ("debts",)), ((0, 0), (0, 1)), ((), ()),
        deep(("not", ("all",))), nested(30), Study(FORM), Desk(FORM), (Study(FORM),), Told(None, None), Told((), Book(FORM, ())),
        Apart(None, None, None, None), Apart("debts", (), Maker(None, None, None), None), LotsTold(None), LotsTold(((),)),
        LotsApart(None, None, None, None), LotsApart((), (), Book(FORM, ()), Book(FORM, ())), RowsTold(None), RowsTold(((),)),
        RowsApart(None, None, None, None, None), RowsApart((), (0, 0), (0, 1), FORM, FORM), ("undo",), ["undo"], ("redo",),
        ("batch", ()), ("batch", []), ("take", 0), ("take", False), ("way", None, None), ("told", None, True), deep(("undo",)),
    ]


def nested(depth):
    """A test that is right, and so many deep."""
    test = ("all",)
    for _ in range(depth - 1):
        test = ("not", test)
    return test


BAD = [
    None, True, False, 0, 1, -1, 2, 9, 10, HUGE, "", "debts", "zebra", (), [], FORM, Chart(FORM, (), ()), InvalidForm(0),
    deep(()), deep((), list), (0, 1), (False, True), (2, 4), (1, 0), (0, -1), ("a", "debts"), ("b", "earns"), (1, 1), (-1, 3),
]


def is_package_object(value):
    return value.__class__.__module__.startswith("whyblank.")


def mutants(value, bad=None):
    """The value changed at one place, in many ways: at any depth, within objects of the package, too."""
    bad = BAD if bad is None else bad
    for thing in bad:
        yield thing
    if isinstance(value, bool):
        yield int(value)
    elif isinstance(value, int):
        yield value + 1
        yield value - 1
        if value in (0, 1):
            yield bool(value)
    elif isinstance(value, str):
        yield value + "a"
        yield value.upper()
    elif isinstance(value, tuple):
        yield list(value)
        yield value + (0,)
        yield value[:-1]
        yield value[1:]
        yield value[::-1]
        yield value + value[-1:]
        for at, thing in enumerate(value):
            for other in mutants(thing, bad):
                yield value[:at] + (other,) + value[at + 1:]
    elif is_package_object(value):
        kept = vars(value)
        for name in kept:
            for other in mutants(kept[name], bad):
                yield value.__class__(**{**kept, name: other})


def same(one, other):
    """Whether two values are equal and of the same kinds, at any depth."""
    if one.__class__ is not other.__class__:
        return False
    if isinstance(one, (tuple, list)):
        return len(one) == len(other) and all(map(same, one, other))
    if isinstance(one, dict):
        return same(sorted(one.items()), sorted(other.items()))
    if is_package_object(one):
        return same(vars(one), vars(other))
    return one == other


def frac(pair):
    return Fraction(pair[0], pair[1])


def pair_of(one):
    one = Fraction(one)
    return (one.numerator, one.denominator)


def spread(random, many, parts=60, nought=False):
    """A tuple of so many shares, 1 together, with bottoms up to parts."""
    total = random.randrange(max(many, 1), parts + 1)
    if nought:
        cuts = sorted(random.randrange(0, total + 1) for _ in range(many - 1))
    else:
        cuts = sorted(random.sample(range(1, total), many - 1))
    ends = [0] + cuts + [total]
    return tuple(pair_of(Fraction(high - low, total)) for low, high in zip(ends, ends[1:]))


def random_form(random, most=3, answers=3):
    names = random.sample(["a", "bb", "cat", "debts", "earns", "z"], random.randrange(1, most + 1))
    return Form(tuple((name, random.randrange(2, answers + 1)) for name in sorted(names)))


def all_nodes(form):
    return [("a", name) for name, _ in form.questions] + [("b", name) for name, _ in form.questions]


def comes_to(arrows, start):
    """All nodes to which arrows lead from a node, over one at least."""
    found = set()
    fresh = [start]
    while fresh:
        here = fresh.pop()
        for one, other in arrows:
            if one == here and other not in found:
                found.add(other)
                fresh.append(other)
    return found


def random_chart(random, form, arrows=4, bows=2):
    nodes = all_nodes(form)
    held = []
    for _ in range(arrows):
        start, end = random.sample(nodes, 2)
        if not (start[0] == "b" and end[0] == "a") and (start, end) not in held and start not in comes_to(held, end):
            held.append((start, end))
    pairs = list(itertools.combinations(nodes, 2))
    return Chart(form, tuple(sorted(held)), tuple(sorted(random.sample(pairs, min(bows, len(pairs))))))


def random_maker(random, chart, nought=False, sides=3):
    coins = tuple(spread(random, random.randrange(1, sides + 1), 12, nought) for _ in chart.bows)
    tables = tuple(
        tuple(spread(random, values_of(chart.form, node), 12, nought) for _ in choices(chart, coins, node))
        for node in all_nodes(chart.form)
    )
    return Maker(chart, coins, tables)


def random_book(random, form, many=None):
    """A book with some lots and truths, or all of them."""
    places = [(lot, truth) for lot in subsets(names(form)) for truth in every_truth(form)]
    if many is not None:
        places = random.sample(places, min(many, len(places)))
    weights = [random.randrange(1, 20) for _ in places]
    rows = [(lot, truth, pair_of(Fraction(one, sum(weights)))) for (lot, truth), one in zip(places, weights)]
    return Book(form, tuple(sorted(rows)))


def random_sheets(random, form, many=None):
    found = every_sheet(form)
    if many is not None:
        found = sorted(random.sample(found, min(many, len(found))))
    weights = [random.randrange(1, 20) for _ in found]
    return Sheets(form, tuple((sheet, pair_of(Fraction(one, sum(weights)))) for sheet, one in zip(found, weights)))


def names(form):
    return [name for name, _ in form.questions]


def subsets(things):
    return sorted(tuple(some) for size in range(len(things) + 1) for some in itertools.combinations(things, size))


def every_truth(form):
    return list(itertools.product(*[range(many) for _, many in form.questions]))


def every_sheet(form):
    return list(itertools.product(*[range(-1, many) for _, many in form.questions]))


def blanked(form, lot, truth):
    return tuple(-1 if name in lot else answer for name, answer in zip(names(form), truth))


def lot_on(form, sheet):
    return tuple(name for name, answer in zip(names(form), sheet) if answer == -1)


def as_dict(book):
    """The shares of a book, as fractions of Python's own, by lot and truth."""
    return {(lot, truth): frac(share) for lot, truth, share in book.shares}


def book_with(form, parts):
    """The book of a dict of numbers or fractions above 0 by lot and truth, in their measure."""
    total = sum(parts.values())
    return Book(form, tuple(sorted((lot, truth, pair_of(Fraction(one) / total)) for (lot, truth), one in parts.items())))


def sheets_with(form, parts):
    """The table of a dict of numbers or fractions above 0 by sheets, in their measure."""
    total = sum(parts.values())
    return Sheets(form, tuple(sorted((sheet, pair_of(Fraction(one) / total)) for sheet, one in parts.items())))


def plain_sheets(book):
    """The sheets of a book, told apart from the package."""
    parts = {}
    for (lot, truth), share in as_dict(book).items():
        sheet = blanked(book.form, lot, truth)
        parts[sheet] = parts.get(sheet, 0) + share
    return sheets_with(book.form, parts)


def free_for(form, shares, name):
    """Whether a blank is free of its own answer, by a dict of shares by lot and truth, word by word."""
    at = names(form).index(name)
    for lot in subsets(names(form)):
        if name not in lot:
            more = tuple(sorted(lot + (name,)))
            for one, other in itertools.combinations(every_truth(form), 2):
                if one[:at] == other[:at] and one[at + 1:] == other[at + 1:]:
                    ahead = shares.get((more, one), 0) * shares.get((lot, other), 0)
                    if ahead != shares.get((more, other), 0) * shares.get((lot, one), 0):
                        return False
    return True


def plain_own_blanks(book):
    return tuple(name for name in names(book.form) if not free_for(book.form, as_dict(book), name))


def closed_family(random, form, many=3):
    """A random family that has all lots within its lots."""
    tops = random.choices(subsets(names(form)), k=random.randrange(1, many + 1))
    return tuple(sorted({lesser for lot in tops for lesser in subsets(lot)}))


def some_truths(random, form):
    return tuple(sorted(random.sample(every_truth(form), random.randrange(1, len(every_truth(form)) + 1))))


def free_book(random, form, lots, truths, most=9):
    """A free book with just these lots, each with just these truths, out of random numbers and weights."""
    weights = {}
    parts = {}
    numbers = {truth: random.randrange(1, most) for truth in truths}
    for lot in lots:
        for truth in truths:
            product = Fraction(numbers[truth])
            for lesser in subsets(lot):
                if lesser:
                    sheet = blanked(form, lesser, truth)
                    if sheet not in weights:
                        weights[sheet] = Fraction(random.randrange(1, most), random.randrange(1, most))
                    product *= weights[sheet]
            parts[(lot, truth)] = product
    return book_with(form, parts)


def random_test(random, form, depth=3, plain=False):
    words = ["all", "is", "is"] + ([] if plain else ["blank"]) + (["not", "both", "either"] if depth > 1 else [])
    word = random.choice(words)
    if word == "is":
        name, many = random.choice(form.questions)
        return (word, name, random.randrange(many))
    if word == "blank":
        return (word, random.choice(names(form)))
    many = {"all": 0, "not": 1}.get(word, 2)
    return (word,) + tuple(random_test(random, form, depth - 1, plain) for _ in range(many))


def random_worth(random, form, depth=3, plain=False):
    word = random.choice(["number", "answer", "if"] + (["plus", "times"] if depth > 1 else []))
    if word == "number":
        return (word, random.choice([0, 1, -1, 2, 7, -30, 10 ** 19]) if random.randrange(2) else random.randrange(-5, 6))
    if word == "answer":
        return (word, random.choice(names(form)))
    if word == "if":
        return (word, random_test(random, form, depth, plain))
    return (word, random_worth(random, form, depth - 1, plain), random_worth(random, form, depth - 1, plain))


def random_ask(random, form, depth=3, plain=False):
    return Ask(random_worth(random, form, depth, plain), random_test(random, form, depth, plain))


def plain_test(form, test, lot, truth):
    """Whether a test holds, read word by word."""
    known = dict(zip(names(form), truth))
    return {
        "all": lambda: True, "is": lambda: known[test[1]] == test[2], "blank": lambda: test[1] in lot,
        "not": lambda: not plain_test(form, test[1], lot, truth),
        "both": lambda: plain_test(form, test[1], lot, truth) and plain_test(form, test[2], lot, truth),
        "either": lambda: plain_test(form, test[1], lot, truth) or plain_test(form, test[2], lot, truth),
    }[test[0]]()


def plain_worth(form, worth, lot, truth):
    """A worth, read word by word."""
    known = dict(zip(names(form), truth))
    return {
        "number": lambda: worth[1], "answer": lambda: known[worth[1]],
        "if": lambda: 1 if plain_test(form, worth[1], lot, truth) else 0,
        "plus": lambda: plain_worth(form, worth[1], lot, truth) + plain_worth(form, worth[2], lot, truth),
        "times": lambda: plain_worth(form, worth[1], lot, truth) * plain_worth(form, worth[2], lot, truth),
    }[worth[0]]()


def plain_answer_by(book, ask):
    """The mean worth among those for whom the test holds, None if there are none."""
    total = told = Fraction(0)
    for (lot, truth), share in as_dict(book).items():
        if plain_test(book.form, ask.given, lot, truth):
            total += share
            told += share * plain_worth(book.form, ask.worth, lot, truth)
    return told / total if total else None


def seeded(number):
    return Random(number)
