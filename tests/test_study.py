"""Points [81] and [82]: studies."""

import copy
import unittest
from fractions import Fraction

from checks import Case
from helpers import (
    FORM, HUGE, WIDE, any_values, comes_to, deep, every_sheet, is_package_object, mutants, names, pair_of, same, seeded,
)
from test_calls import plain_needed
from test_charts import A, B, C, D
from test_forms import fault as form_fault, is_plain_name
from whyblank.charts import Chart
from whyblank.closedlots import closed_lot
from whyblank.errors import InvalidForm, Refused
from whyblank.forms import Form
from whyblank.judging import Apart, Told, judged
from whyblank.sheets import Sheets
from whyblank.study import Study
from whyblank.ways import way_of

EIGHT = Form(tuple((letter, 9) for letter in "abcdefgh"))
SOLE = Form((("debts", 2),))
DEEDS = [
    ("ask", "pets", 3), ("strike", "debts"), ("draw", A, C), ("bow", C, D), ("wipe", ("arrow", A, C)), ("wipe", ("bow", C, D)),
    ("sheet", 0, (0, -1)), ("change", 0, (1, 1)), ("take", 0),
]


def is_number(value):
    return type(value) is int and value >= 0


def is_node(value):
    return type(value) is tuple and len(value) == 2 and any(same(value[0], kind) for kind in "ab") and is_plain_name(value[1])


def is_stretch(value):
    words = type(value) is tuple and len(value) == 3 and any(same(value[0], word) for word in ("arrow", "bow"))
    return words and is_node(value[1]) and is_node(value[2])


PARTS = {
    "ask": [is_plain_name, lambda value: type(value) is int and value in range(2, 10)], "strike": [is_plain_name], "draw": [is_node, is_node],
    "bow": [is_node, is_node], "wipe": [is_stretch], "sheet": [is_number, lambda value: True], "change": [is_number, lambda value: True],
    "take": [is_number],
}


def is_deed(value):
    """Whether any value is a deed, told apart from the package."""
    if type(value) is not tuple or not value or type(value[0]) is not str or value[0] not in PARTS:
        return False
    tests = PARTS[value[0]]
    if len(value) != len(tests) + 1 or not all(test(part) for test, part in zip(tests, value[1:])):
        return False
    return value[0] not in ("draw", "bow") or value[1] != value[2]


def is_call(value):
    """Whether any value is a call, told apart from the package."""
    if same(value, ("undo",)) or same(value, ("redo",)) or is_deed(value):
        return True
    batch = type(value) is tuple and len(value) == 2 and same(value[0], "batch") and type(value[1]) is tuple
    return batch and all(map(is_deed, value[1]))


class Model:
    """A plain account of a study: questions by name, sets of arrows and bows, and each sheet's answers by name."""

    def __init__(self, form):
        self.now = {"questions": dict(form.questions), "arrows": set(), "bows": set(), "sheets": {}}
        self.past, self.ahead = [], []

    def do(self, call):
        if not is_call(call):
            return "call"
        if call[0] in ("undo", "redo"):
            source, target = (self.past, self.ahead) if call[0] == "undo" else (self.ahead, self.past)
            if not source:
                return "nothing"
            done, place = source.pop()
            target.append((done, self.now))
            self.now = place
            return "done"
        place = copy.deepcopy(self.now)
        for deed in call[1] if call[0] == "batch" else (call,):
            word = getattr(self, deed[0])(place, *deed[1:])
            if word is not None:
                return word
        if place == self.now:
            return "nothing"
        self.past.append((call, self.now))
        self.ahead = []
        self.now = place
        return "done"

    def ask(self, place, name, many):
        if name in place["questions"]:
            return "name"
        if len(place["questions"]) == 8:
            return "many"
        place["questions"][name] = many
        for sheet in place["sheets"].values():
            sheet[name] = -1

    def strike(self, place, name):
        if name not in place["questions"]:
            return "name"
        if any(name in (one[1], other[1]) for one, other in place["arrows"] | place["bows"]):
            return "used"
        if len(place["questions"]) == 1:
            return "last"
        del place["questions"][name]
        for sheet in place["sheets"].values():
            del sheet[name]

    def draw(self, place, start, end):
        if start[1] not in place["questions"] or end[1] not in place["questions"]:
            return "name"
        if start[0] == "b" and end[0] == "a":
            return "back"
        if (start, end) in place["arrows"]:
            return "there"
        if start in comes_to(place["arrows"] | {(start, end)}, start):
            return "ring"
        place["arrows"].add((start, end))

    def bow(self, place, one, other):
        if one[1] not in place["questions"] or other[1] not in place["questions"]:
            return "name"
        if tuple(sorted((one, other))) in place["bows"]:
            return "there"
        place["bows"].add(tuple(sorted((one, other))))

    def wipe(self, place, stretch):
        lines = place["arrows"] if stretch[0] == "arrow" else place["bows"]
        if stretch[1:] not in lines:
            return "line"
        lines.remove(stretch[1:])

    def put(self, place, number, sheet):
        order = sorted(place["questions"])
        right = type(sheet) is tuple and len(sheet) == len(order)
        if not right or not all(type(one) is int and -1 <= one < place["questions"][name] for one, name in zip(sheet, order)):
            return "sheet"
        place["sheets"][number] = dict(zip(order, sheet))

    def sheet(self, place, number, sheet):
        return "number" if number in place["sheets"] else self.put(place, number, sheet)

    def change(self, place, number, sheet):
        return self.put(place, number, sheet) if number in place["sheets"] else "number"

    def take(self, place, number):
        if number not in place["sheets"]:
            return "number"
        del place["sheets"][number]

    def chart(self):
        form = Form(tuple(sorted(self.now["questions"].items())))
        return Chart(form, tuple(sorted(self.now["arrows"])), tuple(sorted(self.now["bows"])))

    def tally(self):
        order = sorted(self.now["questions"])
        return tuple((number, tuple(sheet[name] for name in order)) for number, sheet in sorted(self.now["sheets"].items()))

    def table(self):
        """The table of the sheets, None without any."""
        found = [sheet for _, sheet in self.tally()]
        shares = [(sheet, pair_of(Fraction(found.count(sheet), len(found)))) for sheet in sorted(set(found))]
        return Sheets(self.chart().form, tuple(shares)) if found else None

    def calls(self):
        return tuple(call for call, _ in self.past)

    def depth(self):
        return (len(self.past), len(self.ahead))


POOL = ["debts", "earns", "pets", "a", "bb", "cats", "dogs", "eggs", "fish", "goats"]


def random_node(random):
    return (random.choice("aab"), random.choice(POOL[:3]))


def random_deed(random, model):
    word = random.choice(["ask", "ask", "strike", "draw", "draw", "draw", "bow", "wipe", "sheet", "sheet", "change", "take"])
    number = random.randrange(6)
    if word == "ask":
        return (word, random.choice(POOL), random.randrange(2, 4))
    if word == "strike":
        return (word, random.choice(POOL))
    if word in ("draw", "bow"):
        one, other = random_node(random), random_node(random)
        return (word, one, other) if one != other else ("take", number)
    if word == "wipe":
        chart = model.chart()
        lines = [("arrow",) + arrow for arrow in chart.arrows] + [("bow",) + bow for bow in chart.bows]
        lines.append((random.choice(["arrow", "bow"]), random_node(random), random_node(random)))
        return (word, random.choice(lines))
    if word == "take":
        return (word, number)
    sheet = tuple(random.randrange(-1, many) for _, many in model.chart().form.questions)
    return (word, number, random.choice([sheet, sheet, sheet, sheet + (0,), tuple(one + 1 for one in sheet)]))


def random_call(random, model):
    kind = random.randrange(10)
    if kind == 0:
        return ("undo",)
    if kind == 1:
        return ("redo",)
    if kind == 2:
        tried = copy.deepcopy(model)
        deeds = []
        for _ in range(random.randrange(5)):
            deeds.append(random_deed(random, tried))
            # Most of these batches go on where their deeds have led.
            if tried.do(deeds[-1]) != "done" and random.randrange(4):
                deeds.pop()
        return ("batch", tuple(deeds))
    return random_deed(random, model)


class Plain(Case):
    def agrees(self, study, model):
        """Each thing that the study tells is that of the plain account."""
        chart = model.chart()
        self.assertTrue(same(study.chart_now(), chart))
        self.assertTrue(same(study.tally_now(), model.tally()))
        self.assertTrue(same(study.calls(), model.calls()))
        self.assertTrue(same(study.depth(), model.depth()))

    def agrees_whole(self, study, model):
        self.agrees(study, model)
        chart, table = model.chart(), model.table()
        needed = plain_needed(chart)
        self.assertTrue(same(study.needed_now(), needed))
        if needed:
            self.assertTrue(same(study.verdict_now(), ("apart", needed[0], way_of(chart, needed[0]))))
        else:
            self.assertTrue(same(study.verdict_now(), ("told", tuple(closed_lot(chart, name) for name in names(chart.form)))))
        if table is None:
            self.fails(Refused, "none", study.sheets_now)
            self.fails(Refused, "none", study.judged_now)
            return "none"
        self.assertTrue(same(study.sheets_now(), table))
        if set(every_sheet(chart.form)) != {sheet for sheet, _ in table.shares}:
            self.fails(Refused, "nought", study.judged_now)
            return "nought"
        self.assertTrue(same(study.judged_now(), judged(chart, table)))
        return study.verdict_now()[0]

    def test_random_calls(self):
        random = seeded(350)
        words, states = {}, set()
        for _ in range(120):
            form = random.choice([SOLE, FORM, WIDE])
            study, model = Study(form), Model(form)
            for _ in range(40):
                call = random_call(random, model)
                told = study.do(call)
                self.assertEqual(told, model.do(call), call)
                words.setdefault(told, set()).add(call[0])
                self.agrees(study, model)
            if len(model.now["questions"]) < 5:
                states.add(self.agrees_whole(study, model))
        self.assertEqual(set(words), {"done", "name", "many", "used", "last", "back", "there", "ring", "line", "number", "sheet", "nothing"})
        self.assertGreater(len(words["done"]), 9)
        self.assertIn("nought", states)

    def test_sheets_of_all_kinds(self):
        random = seeded(351)
        states = set()
        for _ in range(40):
            form = random.choice([SOLE, FORM])
            study, model = Study(form), Model(form)
            calls = [("sheet", at, sheet) for at, sheet in enumerate(every_sheet(form))] + [("draw", A, C), ("bow", A, C), ("draw", A, D)]
            for call in random.sample(calls, random.randrange(len(calls) + 1)) + [("sheet", 90, every_sheet(form)[0])]:
                self.assertEqual(study.do(call), model.do(call))
            states.add(self.agrees_whole(study, model))
            for at, sheet in enumerate(every_sheet(form)):
                study.do(("sheet", at, sheet))
                model.do(("sheet", at, sheet))
            states.add(self.agrees_whole(study, model))
        self.assertEqual(states, {"nought", "told", "apart"})

    def test_at_the_beginning(self):
        for form in (SOLE, FORM, EIGHT):
            study = Study(form)
            self.agrees_whole(study, Model(form))
            self.assertTrue(same(study.chart_now(), Chart(form, (), ())))
            self.assertTrue(same((study.tally_now(), study.calls(), study.depth(), study.needed_now()), ((), (), (0, 0), ())))
            self.assertTrue(same(study.verdict_now(), ("told", ((),) * len(form.questions))))


class Made(Case):
    def test_any_values_as_form(self):
        for value in any_values() + list(mutants(FORM)) + [Form(value) for value in any_values()]:
            at = form_fault(value)
            if at is None:
                self.assertTrue(same(Study(form=value).chart_now().form, value))
            else:
                self.fails(InvalidForm, at, Study, value)

    def test_no_attributes_no_length_nothing_to_iterate(self):
        study = Study(FORM)
        self.assertTrue(all(name.startswith("_") for name in vars(study)))
        for call in (len, iter, list):
            with self.assertRaises(TypeError):
                call(study)
        self.assertFalse(study == Study(FORM))
        self.assertTrue(is_package_object(study))


class Calls(Case):
    def refused(self, word, study, *calls):
        """None of the calls is done, with this word, and each leaves everything as it was."""
        for call in calls:
            ahead = (study.chart_now(), study.tally_now(), study.calls(), study.depth())
            self.assertTrue(same(study.do(call), word), (call, study.do(call)))
            self.assertTrue(same((study.chart_now(), study.tally_now(), study.calls(), study.depth()), ahead))

    def done(self, study, *calls):
        for call in calls:
            self.assertEqual(study.do(call=call), "done")


class Words(Calls):
    def test_what_is_no_call(self):
        study = Study(FORM)
        self.done(study, ("sheet", 0, (0, -1)), ("draw", A, C), ("undo",))
        for value in any_values() + [deep(deed) for deed in DEEDS] + [list(deed) for deed in DEEDS]:
            if not is_call(value):
                self.refused("call", study, value)
        for deed in DEEDS:
            for value in mutants(deed):
                if not is_call(value):
                    self.refused("call", study, value, ("batch", (value,)), ("batch", (("take", 0), value)), ("batch", (value, ("take", 0))))

    def test_each_part_of_a_deed(self):
        for deed in DEEDS:
            for at in range(1, len(deed)):
                for value in any_values() + [HUGE]:
                    call = deed[:at] + (value,) + deed[at + 1:]
                    study, model = Study(FORM), Model(FORM)
                    self.assertEqual(study.do(call), model.do(call), call)
                    self.assertEqual(study.do(call) == "call", not is_call(call))

    def test_names_and_numbers_of_answers(self):
        for many in (1, 10, -2, True, "2", None, (2,), HUGE):
            self.refused("call", Study(FORM), ("ask", "pets", many))
        for many in range(2, 10):
            self.done(Study(FORM), ("ask", "pets", many))
        for name in ("", "Pets", "petsandcats", "p1", "pets ", "\u00e4", None, 1, ("pets",)):
            self.refused("call", Study(FORM), ("ask", name, 2), ("strike", name), ("draw", ("a", name), C), ("bow", A, ("b", name)))
        for node in (("c", "debts"), ("", "debts"), ("a",), ("a", "debts", "debts"), ["a", "debts"], "debts", None):
            self.refused("call", Study(FORM), ("draw", node, C), ("draw", C, node), ("bow", node, C), ("wipe", ("arrow", node, C)))
        self.refused("call", Study(FORM), ("draw", A, A), ("bow", C, C), ("draw", ("a", "pets"), ("a", "pets")))

    def test_numbers_of_sheets(self):
        for number in (-1, True, False, None, "0", (0,), 0.5):
            self.refused("call", Study(FORM), ("sheet", number, (0, 0)), ("change", number, (0, 0)), ("take", number))
        study = Study(FORM)
        self.done(study, ("sheet", HUGE, (0, 0)), ("sheet", 0, (0, 0)), ("sheet", 10 ** 30, (1, 1)))
        self.assertEqual([number for number, _ in study.tally_now()], [0, 10 ** 30, HUGE])

    def test_sheets_are_any_values(self):
        for value in any_values() + [(0, 2), (0, -2), (0,), (0, 0, 0), (True, 0), (0, False), [0, 0], (-1, None)]:
            right = type(value) is tuple and any(same(value, sheet) for sheet in every_sheet(FORM))
            study = Study(FORM)
            self.assertEqual(study.do(("sheet", 3, value)), "done" if right else "sheet", value)
            self.done(study, ("sheet", 4, (0, 1)))
            self.assertEqual(study.do(("change", 4, value)), ("nothing" if same(value, (0, 1)) else "done") if right else "sheet")

    def test_names(self):
        study = Study(FORM)
        pets = ("a", "pets")
        self.refused("name", study, ("ask", "debts", 2), ("ask", "earns", 9), ("strike", "pets"), ("draw", pets, C), ("draw", A, ("b", "pets")))
        self.refused("name", study, ("bow", pets, C), ("bow", A, pets), ("draw", ("b", "pets"), A), ("draw", pets, ("b", "pets")))
        self.refused("line", study, ("wipe", ("arrow", pets, C)), ("wipe", ("bow", A, pets)))

    def test_many(self):
        study = Study(EIGHT)
        self.refused("many", study, ("ask", "z", 2), ("ask", "aa", 9))
        self.refused("name", study, ("ask", "a", 2))
        self.done(study, ("strike", "c"), ("ask", "z", 2))
        self.refused("many", study, ("ask", "c", 9))
        self.done(study, ("batch", (("strike", "z"), ("ask", "c", 9))))

    def test_used_and_last(self):
        study = Study(FORM)
        for line, wipe in ((("draw", A, C), ("wipe", ("arrow", A, C))), (("bow", C, D), ("wipe", ("bow", C, D))), (("draw", B, C), ("wipe", ("arrow", B, C)))):
            self.done(study, line)
            self.refused("used", study, ("strike", "debts"))
            self.done(study, wipe)
        sole = Study(SOLE)
        self.refused("last", sole, ("strike", "debts"))
        self.refused("name", sole, ("strike", "earns"))
        self.done(sole, ("bow", A, C))
        self.refused("used", sole, ("strike", "debts"))
        self.done(study, ("strike", "debts"))
        self.refused("last", study, ("strike", "earns"))

    def test_arrows_and_bows(self):
        study = Study(FORM)
        self.refused("back", study, ("draw", C, A), ("draw", D, A))
        self.done(study, ("draw", A, B), ("draw", C, D), ("bow", D, A), ("bow", A, B))
        self.refused("there", study, ("draw", A, B), ("draw", C, D), ("bow", A, D), ("bow", D, A), ("bow", B, A))
        self.refused("ring", study, ("draw", B, A), ("draw", D, C))
        self.assertEqual(study.chart_now(), Chart(FORM, ((A, B), (C, D)), ((A, B), (A, D))))

    def test_wipe(self):
        study = Study(FORM)
        self.done(study, ("draw", A, C), ("bow", D, C))
        wrong = [("arrow", C, A), ("bow", A, C), ("arrow", C, D), ("bow", D, C), ("arrow", A, A), ("bow", C, C), ("arrow", A, D)]
        self.refused("line", study, *[("wipe", stretch) for stretch in wrong])
        self.done(study, ("wipe", ("bow", C, D)))
        self.refused("line", study, ("wipe", ("bow", C, D)))
        self.done(study, ("wipe", ("arrow", A, C)))
        self.assertEqual(study.chart_now(), Chart(FORM, (), ()))

    def test_numbers_and_sheets(self):
        study = Study(FORM)
        self.refused("number", study, ("change", 0, (0, 0)), ("take", 0), ("change", 0, None))
        self.refused("sheet", study, ("sheet", 0, (0, 2)), ("sheet", 0, ()), ("sheet", 0, None))
        self.done(study, ("sheet", 0, (0, -1)))
        self.refused("number", study, ("sheet", 0, (0, -1)), ("sheet", 0, (1, 1)), ("sheet", 0, None), ("change", 1, (0, -1)), ("take", 1))
        self.refused("sheet", study, ("change", 0, (0, 2)), ("change", 0, [0, 0]))
        self.refused("nothing", study, ("change", 0, (0, -1)))
        self.done(study, ("change", 0, (0, 0)), ("take", 0))
        self.refused("number", study, ("take", 0), ("change", 0, (0, 0)))


class Batches(Calls):
    def test_all_or_none(self):
        study = Study(FORM)
        first = (("ask", "pets", 2), ("draw", ("a", "pets"), ("b", "pets")), ("sheet", 5, (0, 1, -1)), ("sheet", 6, (-1, -1, -1)))
        wrong = {
            "name": ("ask", "pets", 3), "used": ("strike", "pets"), "there": ("draw", ("a", "pets"), ("b", "pets")), "back": ("draw", C, A),
            "line": ("wipe", ("arrow", A, C)), "number": ("sheet", 6, (0, 0, 0)), "sheet": ("sheet", 7, (0, 0)),
        }
        for word, deed in wrong.items():
            self.refused(word, study, ("batch", first + (deed,)), ("batch", first[:3] + (deed,) + first[3:]) if word != "number" else ("take", 9))
        self.done(study, ("batch", first))
        self.assertEqual(study.calls(), (("batch", first),))
        self.assertEqual(study.depth(), (1, 0))
        self.done(study, ("undo",))
        self.assertEqual((study.chart_now(), study.tally_now()), (Chart(FORM, (), ()), ()))
        self.done(study, ("redo",))
        self.assertEqual(study.tally_now(), ((5, (0, 1, -1)), (6, (-1, -1, -1))))

    def test_word_of_the_first_wrong_deed(self):
        study = Study(FORM)
        deeds = {
            "name": ("ask", "debts", 2), "back": ("draw", C, A), "line": ("wipe", ("bow", A, B)), "number": ("take", 0), "sheet": ("sheet", 0, ()),
        }
        for word, deed in deeds.items():
            for other in deeds.values():
                self.refused(word, study, ("batch", (deed, other)), ("batch", (("sheet", 8, (0, 0)), deed, other)))
        self.refused("call", study, ("batch", (deeds["back"], ("draw", A, A))), ("batch", (deeds["sheet"], ("take", -1))))

    def test_within_a_batch(self):
        study = Study(FORM)
        take = ("sheet", 0, (0, 0))
        for inner in (("batch", ()), ("batch", (take,)), ("undo",), ("redo",), (), None, [take]):
            self.refused("call", study, ("batch", (inner,)), ("batch", (take, inner)), ("batch", (inner, take)))
        for batch in (("batch",), ("batch", [take]), ("batch", take), ("batch", (take,), ()), ["batch", (take,)], ("batch", None), ("batch", 0)):
            self.refused("call", study, batch)

    def test_all_would_be_as_it_is(self):
        study = Study(FORM)
        self.refused("nothing", study, ("batch", ()), ("batch", (("sheet", 0, (0, 0)), ("take", 0))), ("batch", (("bow", A, B), ("wipe", ("bow", A, B)))))
        self.refused("nothing", study, ("batch", (("ask", "pets", 2), ("strike", "pets"))), ("batch", (("draw", A, B), ("wipe", ("arrow", A, B)))))
        self.done(study, ("sheet", 0, (-1, 1)))
        self.refused("nothing", study, ("change", 0, (-1, 1)), ("batch", (("change", 0, (-1, 1)),)), ("batch", (("change", 0, (0, 0)), ("change", 0, (-1, 1)))))
        self.refused("nothing", study, ("batch", (("strike", "debts"), ("ask", "debts", 2))))
        self.done(study, ("batch", (("strike", "earns"), ("ask", "earns", 2))))
        self.assertEqual(study.tally_now(), ((0, (-1, -1)),))
        # One deed of several may leave all as it is.
        self.done(study, ("batch", (("change", 0, (-1, -1)), ("sheet", 1, (0, 0)))))


class Comes(Calls):
    def test_a_question_that_comes_is_blank_on_all_sheets(self):
        study = Study(FORM)
        self.done(study, ("sheet", 0, (0, 1)), ("sheet", 7, (-1, 1)))
        for name, sheets in (("aaa", ((-1, 0, 1), (-1, -1, 1))), ("dogs", ((0, -1, 1), (-1, -1, 1))), ("zebra", ((0, 1, -1), (-1, 1, -1)))):
            twin = study.twin()
            self.done(twin, ("ask", name, 4))
            self.assertEqual(names(twin.chart_now().form), sorted(["debts", "earns", name]))
            self.assertEqual(tuple(sheet for _, sheet in twin.tally_now()), sheets)
            self.assertEqual(dict(twin.chart_now().form.questions)[name], 4)

    def test_a_struck_question_takes_with_it_what_was_answered_to_it(self):
        study = Study(WIDE)
        self.done(study, ("sheet", 0, (0, 2, 1)), ("sheet", 7, (-1, 1, -1)), ("draw", A, C), ("strike", "drink"))
        self.assertEqual(study.tally_now(), ((0, (0, 1)), (7, (-1, -1))))
        self.assertEqual(study.chart_now(), Chart(Form((("debts", 2), ("pets", 2))), ((A, C),), ()))
        self.done(study, ("ask", "drink", 3))
        self.assertEqual(study.tally_now(), ((0, (0, -1, 1)), (7, (-1, -1, -1))))
        self.done(study, ("undo",), ("undo",))
        self.assertEqual(study.tally_now(), ((0, (0, 2, 1)), (7, (-1, 1, -1))))

    def test_sheets_now(self):
        study = Study(FORM)
        self.fails(Refused, "none", study.sheets_now)
        self.done(study, ("sheet", 4, (0, 1)), ("sheet", 2, (-1, 1)), ("sheet", 3, (0, 1)))
        self.assertEqual(study.sheets_now(), Sheets(FORM, (((-1, 1), (1, 3)), ((0, 1), (2, 3)))))
        self.fails(Refused, "nought", study.judged_now)
        self.done(study, ("batch", (("take", 2), ("take", 3), ("take", 4))))
        self.fails(Refused, "none", study.judged_now)


class Back(Calls):
    def test_to_any_depth(self):
        random = seeded(352)
        for _ in range(30):
            study, model, places = Study(FORM), Model(FORM), []
            while len(places) < 40:
                call = random_call(random, model)
                if call[0] not in ("undo", "redo"):
                    place = (study.chart_now(), study.tally_now())
                    told = model.do(call)
                    self.assertEqual(study.do(call), told)
                    if told == "done":
                        places.append((place, call))
            last = (study.chart_now(), study.tally_now())
            calls = tuple(call for _, call in places)
            self.assertEqual(study.calls(), calls)
            for at in reversed(range(40)):
                self.done(study, ("undo",))
                self.assertEqual((study.chart_now(), study.tally_now()), places[at][0])
                self.assertEqual((study.calls(), study.depth()), (calls[:at], (at, 40 - at)))
            self.refused("nothing", study, ("undo",))
            for at in range(40):
                self.done(study, ("redo",))
                self.assertEqual((study.calls(), study.depth()), (calls[:at + 1], (at + 1, 39 - at)))
            self.refused("nothing", study, ("redo",))
            self.assertEqual((study.chart_now(), study.tally_now()), last)

    def test_a_new_call_leaves_nothing_to_redo(self):
        study = Study(FORM)
        self.refused("nothing", study, ("undo",), ("redo",))
        self.done(study, ("sheet", 0, (0, 0)), ("sheet", 1, (0, 1)), ("undo",))
        self.refused("number", study, ("sheet", 0, (1, 1)))
        self.refused("nothing", study, ("change", 0, (0, 0)), ("batch", ()))
        self.refused("call", study, ("sheet",), ["redo"], ("redo", 1))
        self.assertEqual(study.depth(), (1, 1))
        self.done(study, ("redo",), ("undo",), ("sheet", 1, (0, 1)))
        self.assertEqual(study.depth(), (2, 0))
        self.refused("nothing", study, ("redo",))
        self.done(study, ("undo",), ("undo",), ("draw", A, C))
        self.assertEqual((study.depth(), study.calls()), ((1, 0), (("draw", A, C),)))
        self.refused("nothing", study, ("redo",))

    def test_these_two_are_no_calls_that_are_told(self):
        study = Study(FORM)
        self.done(study, ("draw", A, C), ("undo",), ("redo",))
        self.assertEqual(study.calls(), (("draw", A, C),))
        self.done(study, ("undo",))
        self.assertEqual((study.calls(), study.depth()), ((), (0, 1)))


class Twins(Calls):
    def test_each_goes_on_alone(self):
        random = seeded(353)
        for _ in range(25):
            study, model = Study(FORM), Model(FORM)
            for _ in range(random.randrange(20)):
                call = random_call(random, model)
                self.assertEqual(study.do(call), model.do(call))
            pairs = [(study, model)]
            for _ in range(3):
                one, other = random.choice(pairs)
                pairs.append((one.twin(), copy.deepcopy(other)))
            for _ in range(40):
                one, other = random.choice(pairs)
                call = random_call(random, other)
                self.assertEqual(one.do(call), other.do(call))
                for one, other in pairs:
                    self.assertTrue(same((one.chart_now(), one.tally_now()), (other.chart(), other.tally())))
                    self.assertEqual((one.calls(), one.depth()), (other.calls(), other.depth()))

    def test_what_can_be_redone_too(self):
        study = Study(FORM)
        self.done(study, ("draw", A, C), ("sheet", 0, (0, 0)), ("undo",))
        twin = study.twin()
        self.assertEqual(twin.depth(), (1, 1))
        self.done(twin, ("redo",), ("undo",), ("undo",))
        self.assertEqual((study.depth(), twin.depth()), ((1, 1), (0, 2)))
        self.done(study, ("strike", "earns"))
        self.done(twin, ("redo",), ("redo",))
        self.assertEqual(twin.tally_now(), ((0, (0, 0)),))
        self.assertEqual(study.tally_now(), ())


class Claims(Case):
    def test_one_line_more_one_line_less(self):
        random = seeded(354)
        turned = set()
        for _ in range(60):
            study, model = Study(WIDE), Model(WIDE)
            for _ in range(20):
                call = random_deed(random, model)
                if call[0] in ("draw", "bow", "wipe", "sheet", "change", "take"):
                    ahead = study.verdict_now()[0]
                    self.assertEqual(study.do(call), model.do(call))
                    behind = study.verdict_now()[0]
                    if call[0] in ("draw", "bow"):
                        self.assertFalse(ahead == "apart" and behind == "told")
                    if call[0] == "wipe":
                        self.assertFalse(ahead == "told" and behind == "apart")
                    if call[0] in ("sheet", "change", "take"):
                        self.assertEqual(ahead, behind)
                    turned.add((ahead, behind))
        self.assertEqual(turned, {("told", "told"), ("told", "apart"), ("apart", "told"), ("apart", "apart")})

    def test_at_each_moment(self):
        study = Study(FORM)
        for at, sheet in enumerate(every_sheet(FORM)):
            study.do(("sheet", at, sheet))
        for call in (("draw", A, D), ("draw", A, C), ("bow", C, D), ("wipe", ("arrow", A, C)), ("undo",), ("change", 4, (0, 0)), ("change", 4, (1, 1))):
            study.do(call)
            word = study.verdict_now()[0]
            if study.tally_now()[4][1] == every_sheet(FORM)[4]:
                self.assertIs(type(study.judged_now()), Told if word == "told" else Apart)
            else:
                self.fails(Refused, "nought", study.judged_now)
            self.assertEqual(word == "told", study.needed_now() == ())

    def test_the_greatest_studies(self):
        study = Study(EIGHT)
        random = seeded(355)
        nodes = [(kind, letter) for kind in "ab" for letter in "abcdefgh"]
        deeds = [("sheet", number, tuple(random.randrange(-1, 9) for _ in range(8))) for number in range(40)]
        self.assertEqual(study.do(("batch", tuple(deeds))), "done")
        while len(study.chart_now().arrows) < 10:
            study.do(("draw",) + tuple(random.sample(nodes, 2)))
        while len(study.chart_now().bows) < 4:
            study.do(("bow",) + tuple(random.sample(nodes, 2)))
        self.assertIn(study.verdict_now()[0], ("told", "apart"))
        self.fails(Refused, "nought", study.judged_now)
        self.assertEqual(sum(share[0] * 40 // share[1] for _, share in study.sheets_now().shares), 40)


if __name__ == "__main__":
    unittest.main()
