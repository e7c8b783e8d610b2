"""Points [70] to [74]: kept weights."""

import itertools
import unittest
from fractions import Fraction

from checks import Case
from helpers import (
    FORM, HUGE, WIDE, any_values, blanked, every_sheet, every_truth, frac, is_package_object, lot_on, names, pair_of, random_ask, random_form,
    same, seeded, sheets_with, subsets,
)
from test_weights import not_grown
from whyblank.asks import Ask, answer_by
from whyblank.errors import InvalidSheets, InvalidSize, Refused
from whyblank.forms import Form
from whyblank.kept import Kept, more_blanks, weights_by
from whyblank.onebook import one_book
from whyblank.weights import check_weights, weights

SOLE = Form((("debts", 2),))
ALL = Ask(("number", 1), ("all",))


def kept_weights(form, numbers):
    """The kept weights of all sheets, word by word, done anew."""
    found = {}
    for sheet in sorted(every_sheet(form), key=lambda some: some.count(-1)):
        total = Fraction(0)
        if -1 not in sheet:
            found[sheet] = Fraction(1 if sheet in numbers else 0)
            continue
        lot = lot_on(form, sheet)
        for truth in every_truth(form):
            if blanked(form, lot, truth) == sheet:
                term = Fraction(numbers.get(truth, 0))
                for lesser in subsets(lot):
                    if lesser not in ((), lot):
                        term *= found[blanked(form, lesser, truth)]
                total += term
        found[sheet] = numbers.get(sheet, 0) / total if total else Fraction(0)
    return found


def counts_of(numbers):
    return tuple(sorted(numbers.items()))


def pairs_of(found):
    return tuple(sorted((sheet, pair_of(one)) for sheet, one in found.items() if one and -1 in sheet))


def blanker(sheet):
    return sorted({blanked_at(sheet, places) for many in range(len(sheet) + 1) for places in itertools.combinations(range(len(sheet)), many)})


def blanked_at(sheet, places):
    return tuple(-1 if at in places else answer for at, answer in enumerate(sheet))


class MoreBlanks(Case):
    def test_all(self):
        for form in (SOLE, FORM, WIDE, Form((("a", 2), ("b", 3), ("c", 2), ("d", 2)))):
            for sheet in every_sheet(form):
                found = more_blanks(sheet)
                self.assertTrue(same(found, tuple(blanker(sheet))))
                self.assertEqual(len(found), 2 ** sum(answer != -1 for answer in sheet))
        self.assertEqual(more_blanks(sheet=(0, -1, 1)), ((-1, -1, -1), (-1, -1, 1), (0, -1, -1), (0, -1, 1)))
        self.assertEqual(more_blanks((-1, -1)), ((-1, -1),))
        self.assertEqual(len(more_blanks((0,) * 8)), 256)

    def test_what_a_change_reaches(self):
        """While the table stays grown, a change at a sheet changes no weights but those of its `more_blanks`."""
        random = seeded(180)
        for _ in range(15):
            form = random_form(random)
            parts = {sheet: random.randrange(1, 9) for sheet in every_sheet(form)}
            ahead = dict(weights(sheets_with(form, parts)))
            sheet = random.choice(every_sheet(form))
            parts[sheet] += random.randrange(1, 9)
            for other, one in weights(sheets_with(form, parts)):
                if other not in more_blanks(sheet):
                    self.assertEqual(one, ahead[other])


class WeightsBy(Case):
    def test_word_by_word(self):
        random = seeded(181)
        for _ in range(80):
            form = random_form(random)
            some = random.sample(every_sheet(form), random.randrange(0, min(len(every_sheet(form)), 12) + 1))
            numbers = {sheet: random.choice([1, 2, 7, 10 ** 9]) for sheet in some}
            self.assertTrue(same(weights_by(form, counts_of(numbers)), pairs_of(kept_weights(form, numbers))))
        self.assertEqual(weights_by(counts=(((-1,), 2), ((0,), 3), ((1,), 1)), form=SOLE), (((-1,), (1, 2)),))
        self.assertEqual(weights_by(SOLE, ()), ())

    def test_sums_that_are_nought(self):
        self.assertEqual(weights_by(FORM, (((-1, -1), 5),)), ())
        self.assertEqual(weights_by(FORM, (((-1, 0), 2), ((0, 1), 5))), ())
        self.assertEqual(weights_by(FORM, (((-1, -1), 2), ((-1, 0), 1), ((0, 0), 5))), (((-1, 0), (1, 5)),))
        numbers = {(0, 0): 1, (0, 1): 1, (-1, 0): 1, (-1, 1): 1, (0, -1): 1, (-1, -1): 6}
        self.assertEqual(dict(weights_by(FORM, counts_of(numbers)))[(-1, -1)], (6, 1))

    def test_weights_of_grown_tables(self):
        random = seeded(182)
        tried = 0
        for _ in range(60):
            form = random_form(random)
            truths = random.sample(every_truth(form), random.randrange(1, len(every_truth(form)) + 1))
            tops = random.choices(subsets(names(form)), k=2)
            sheets = {blanked(form, lesser, truth) for lot in tops for lesser in subsets(lot) for truth in truths}
            numbers = {sheet: random.randrange(1, 20) for sheet in sheets}
            one = sheets_with(form, numbers)
            tried += not_grown(one) is None
            self.assertTrue(same(weights_by(form, counts_of(numbers)), weights(one)))
        self.assertEqual(tried, 60)


class Model:
    """What a desk should tell, done anew each time."""

    def __init__(self, form):
        self.form = form
        self.numbers = {}
        self.last = ()
        self.done = 0
        self.past = []
        self.ahead = []

    def change(self, changes):
        numbers = dict(self.numbers)
        for sheet, many in changes:
            numbers[sheet] = numbers.get(sheet, 0) + many
        self.numbers = {sheet: many for sheet, many in numbers.items() if many}
        self.last = tuple(sorted({some for sheet, _ in changes for some in blanker(sheet)}))
        self.done += len(self.last)

    def step(self, changes):
        self.past.append(self.numbers)
        self.sheets = getattr(self, "sheets", [])
        self.sheets = self.sheets[:len(self.past) - 1] + [[sheet for sheet, _ in changes]]
        self.change(changes)
        self.ahead = []

    def back(self, there, other):
        if not there:
            return False
        at = len(self.past) - 1 if there is self.past else len(self.past)
        other.append(self.numbers)
        kept = there.pop()
        self.change([(sheet, 0) for sheet in self.sheets[at]])
        self.numbers = kept
        return True


class Steps(Case):
    def agrees(self, desk, model, random=None):
        self.assertTrue(same(desk.counts(), counts_of(model.numbers)))
        self.assertTrue(same(desk.whole(), sum(model.numbers.values())))
        self.assertTrue(same(desk.last(), model.last))
        self.assertTrue(same(desk.done(), model.done))
        self.assertTrue(same(desk.depth(), (len(model.past), len(model.ahead))))
        found = kept_weights(model.form, model.numbers)
        self.assertTrue(same(desk.weights(), pairs_of(found)))
        self.assertTrue(same(desk.weights(), weights_by(model.form, desk.counts())))
        for sheet in every_sheet(model.form):
            self.assertTrue(same(desk.weight_now(sheet), pair_of(found[sheet])))
        if not model.numbers:
            self.fails(Refused, "none", desk.table)
            self.fails(Refused, "none", desk.book_now)
            self.fails(Refused, "none", desk.answer_now, ALL)
            return
        one = sheets_with(model.form, model.numbers)
        self.assertTrue(same(desk.table(), one))
        word = not_grown(one)
        ask = ALL if random is None else random_ask(random, model.form)
        if word is not None:
            self.fails(Refused, word, desk.book_now)
            self.fails(Refused, word, desk.answer_now, ask)
            return
        self.assertIs(check_weights(one, desk.weights()), True)
        self.assertTrue(same(desk.book_now(), one_book(one)))
        try:
            expected = answer_by(one_book(one), ask)
        except Refused as why:
            self.fails(Refused, why.word, desk.answer_now, ask)
        else:
            self.assertTrue(same(desk.answer_now(ask), expected))

    def one_step(self, random, desk, model):
        """One call on both, right or wrong; the desk is the same as ahead where it is refused."""
        sheets = every_sheet(model.form)
        sheet, other, many = random.choice(sheets), random.choice(sheets), random.choice([1, 1, 2, 3, 10 ** 9])
        word = random.choice(["put", "put", "put", "take", "move", "undo", "undo", "redo"])
        if word in ("take", "move") and model.numbers and random.randrange(3):
            sheet = random.choice(sorted(model.numbers))
            many = random.choice([model.numbers[sheet], 1, model.numbers[sheet] + 1])
        if word == "put":
            self.assertIsNone(desk.put(sheet, many))
            model.step([(sheet, many)])
        elif word == "undo":
            self.assertIs(desk.undo(), model.back(model.past, model.ahead))
        elif word == "redo":
            self.assertIs(desk.redo(), model.back(model.ahead, model.past))
        elif model.numbers.get(sheet, 0) < many:
            if word == "take":
                self.fails(Refused, "few", desk.take, sheet, many)
            else:
                self.fails(Refused, "few", desk.move, sheet, other, many)
        elif word == "take":
            self.assertIsNone(desk.take(sheet, many))
            model.step([(sheet, -many)])
        else:
            self.assertIsNone(desk.move(sheet, other, many))
            model.step([(sheet, -many), (other, many)])

    def test_beside_the_same_done_anew(self):
        random = seeded(183)
        for form in (SOLE, FORM, Form((("a", 3), ("b", 2))), Form((("a", 2), ("b", 2), ("c", 2)))):
            for _ in range(3):
                desk, model = Kept(form), Model(form)
                self.agrees(desk, model)
                for _ in range(40):
                    self.one_step(random, desk, model)
                    self.agrees(desk, model, random)

    def test_grown_counts(self):
        random = seeded(184)
        for form in (SOLE, FORM, Form((("a", 2), ("b", 2), ("c", 2)))):
            desk, model = Kept(form), Model(form)
            sheets = every_sheet(form)
            random.shuffle(sheets)
            for sheet in sheets:
                many = random.randrange(1, 9)
                desk.put(sheet, many)
                model.step([(sheet, many)])
                self.agrees(desk, model)
            for _ in range(15):
                self.one_step(random, desk, model)
                self.agrees(desk, model, random)

    def test_by_names(self):
        desk = Kept(form=SOLE)
        self.assertEqual(desk.form, SOLE)
        self.assertIsNone(desk.put(many=3, sheet=(0,)))
        self.assertIsNone(desk.take(many=1, sheet=(0,)))
        self.assertIsNone(desk.move(many=1, other=(1,), sheet=(0,)))
        self.assertEqual(desk.counts(), (((0,), 1), ((1,), 1)))
        self.assertEqual(desk.weight_now(sheet=(0,)), (1, 1))
        self.assertEqual(desk.answer_now(ask=Ask(("answer", "debts"), ("all",))), (1, 2))
        desk.put([0] and (0,), 1)
        self.assertEqual(desk.counts(), (((0,), 2), ((1,), 1)))

    def test_which_weights_a_step_does_anew(self):
        desk = Kept(FORM)
        self.assertEqual((desk.last(), desk.done(), desk.depth()), ((), 0, (0, 0)))
        desk.put((0, 1), 2)
        self.assertEqual((desk.last(), desk.done()), (((-1, -1), (-1, 1), (0, -1), (0, 1)), 4))
        desk.put((-1, 1), 2)
        self.assertEqual((desk.last(), desk.done()), (((-1, -1), (-1, 1)), 6))
        desk.put((-1, -1), 2)
        self.assertEqual((desk.last(), desk.done()), (((-1, -1),), 7))
        # Those of both sheets, each once, also where they stay as they are.
        desk.move((0, 1), (0, 0), 1)
        self.assertEqual((desk.last(), desk.done()), (((-1, -1), (-1, 0), (-1, 1), (0, -1), (0, 0), (0, 1)), 13))
        desk.move((0, 1), (0, 1), 1)
        self.assertEqual((desk.last(), desk.done()), (((-1, -1), (-1, 1), (0, -1), (0, 1)), 17))
        self.assertIs(desk.undo(), True)
        self.assertEqual((desk.last(), desk.done()), (((-1, -1), (-1, 1), (0, -1), (0, 1)), 21))
        self.assertIs(desk.undo(), True)
        self.assertEqual(desk.done(), 27)
        self.assertEqual(desk.counts(), (((-1, -1), 2), ((-1, 1), 2), ((0, 1), 2)))
        self.assertIs(desk.redo(), True)
        self.assertEqual((len(desk.last()), desk.done()), (6, 33))
        # What is refused does nothing anew.
        self.fails(Refused, "few", desk.take, (0, 0), 2)
        self.assertEqual((len(desk.last()), desk.done(), desk.depth()), (6, 33, (4, 1)))

    def test_steps_back_and_forth(self):
        desk = Kept(FORM)
        self.assertEqual((desk.undo(), desk.redo(), desk.depth()), (False, False, (0, 0)))
        self.assertEqual((desk.last(), desk.done()), ((), 0))
        told = [desk.counts()]
        for many in range(1, 30):
            desk.put((many % 2, -1 if many % 3 else 0), many)
            told.append(desk.counts())
        for at in range(28, -1, -1):
            self.assertIs(desk.undo(), True)
            self.assertEqual((desk.counts(), desk.depth()), (told[at], (at, 29 - at)))
        self.assertIs(desk.undo(), False)
        for at in range(1, 30):
            self.assertIs(desk.redo(), True)
            self.assertEqual((desk.counts(), desk.depth()), (told[at], (at, 29 - at)))
        self.assertIs(desk.redo(), False)
        for _ in range(10):
            desk.undo()
        desk.put((1, 1), 1)
        self.assertEqual((desk.depth(), desk.redo()), ((20, 0), False))
        # A step that is refused forgets nothing.
        desk.undo()
        self.fails(Refused, "few", desk.take, (1, 1), 10 ** 9)
        self.fails(InvalidSize, "many", desk.put, (1, 1), 0)
        self.assertEqual((desk.depth(), desk.redo()), ((19, 1), True))

    def test_many_steps(self):
        random = seeded(185)
        form = Form((("a", 3), ("b", 3), ("c", 3)))
        desk, model = Kept(form), Model(form)
        for _ in range(700):
            sheet, many = random.choice(every_sheet(form)), random.randrange(1, 10 ** 9)
            desk.put(sheet, many)
            model.step([(sheet, many)])
        self.agrees(desk, model, random)
        for _ in range(300):
            self.assertIs(desk.undo(), model.back(model.past, model.ahead))
        self.agrees(desk, model, random)


class Wrong(Case):
    def held(self):
        desk = Kept(FORM)
        desk.put((0, 0), 3)
        desk.put((-1, 0), 2)
        desk.put((1, 1), 1)
        desk.undo()
        return desk

    def state(self, desk):
        return (desk.counts(), desk.weights(), desk.last(), desk.done(), desk.depth(), desk.whole())

    def test_any_values(self):
        desk = self.held()
        ahead = self.state(desk)
        sheets = every_sheet(FORM)
        for value in any_values() + [(0, 0, 0), (0,), (False, 0), [0, 0], (0, -2), (2, 0), ((0, 0),), "00", (0, HUGE)]:
            if not any(same(value, sheet) for sheet in sheets):
                for many in (1, 0, None, value):
                    self.fails(InvalidSheets, 0, desk.put, value, many)
                    self.fails(InvalidSheets, 0, desk.take, value, many)
                    self.fails(InvalidSheets, 0, desk.move, value, value, many)
                    self.fails(InvalidSheets, 0, desk.move, value, (0, 0), many)
                    self.fails(InvalidSheets, 1, desk.move, (0, 0), value, many)
                    self.fails(InvalidSheets, 1, desk.move, (1, 1), value, many)
            if type(value) is not int or value < 1:
                for sheet in ((0, 0), (1, 1)):
                    self.fails(InvalidSize, "many", desk.put, sheet, value)
                    self.fails(InvalidSize, "many", desk.take, sheet, value)
                    self.fails(InvalidSize, "many", desk.move, sheet, (0, 0), value)
            elif value > 3:
                self.fails(Refused, "few", desk.take, (0, 0), value)
                self.fails(Refused, "few", desk.move, (0, 0), (0, 0), value)
        self.assertTrue(same(self.state(desk), ahead))

    def test_few(self):
        desk = self.held()
        ahead = self.state(desk)
        for sheet, many in (((0, 0), 4), ((-1, 0), 3), ((1, 1), 1), ((-1, -1), 1), ((0, 0), HUGE)):
            self.fails(Refused, "few", desk.take, sheet, many)
            self.fails(Refused, "few", desk.move, sheet, sheet, many)
            self.fails(Refused, "few", desk.move, sheet, (1, 0), many)
        self.assertTrue(same(self.state(desk), ahead))
        self.assertIsNone(desk.take((0, 0), 3))
        self.assertEqual(desk.counts(), (((-1, 0), 2),))
        self.assertEqual(desk.weights(), ())
        self.assertEqual(desk.weight_now((0, 0)), (0, 1))

    def test_great_numbers(self):
        desk = Kept(FORM)
        desk.put((0, 0), HUGE)
        desk.put((-1, 0), HUGE)
        self.assertEqual(desk.weights(), (((-1, 0), (1, 1)),))
        desk.take((0, 0), HUGE - 1)
        self.assertEqual(desk.weights(), (((-1, 0), (HUGE, 1)),))


class Twins(Case):
    def test_twins_go_their_own_ways(self):
        random = seeded(186)
        steps = Steps()
        desk, model = Kept(FORM), Model(FORM)
        for _ in range(25):
            steps.one_step(random, desk, model)
        for _ in range(6):
            twin = desk.twin()
            self.assertIsInstance(twin, Kept)
            self.assertIsNot(twin, desk)
            steps.agrees(twin, model, random)
            other = Model(FORM)
            for name, value in vars(model).items():
                setattr(other, name, list(value) if isinstance(value, list) else dict(value) if isinstance(value, dict) else value)
            for _ in range(15):
                if random.randrange(2):
                    steps.one_step(random, desk, model)
                else:
                    steps.one_step(random, twin, other)
                steps.agrees(desk, model, random)
                steps.agrees(twin, other, random)
        self.assertTrue(is_package_object(desk.twin().twin()))

    def test_what_can_be_done_once_more_goes_along(self):
        desk = Kept(SOLE)
        desk.put((0,), 1)
        desk.put((1,), 2)
        desk.undo()
        twin = desk.twin()
        self.assertEqual((twin.depth(), twin.last(), twin.done()), (desk.depth(), desk.last(), desk.done()))
        self.assertIs(twin.redo(), True)
        self.assertEqual((twin.counts(), desk.counts()), ((((0,), 1), ((1,), 2)), (((0,), 1),)))
        self.assertEqual((twin.depth(), desk.depth()), ((2, 0), (1, 1)))
        desk.put((-1,), 5)
        self.assertEqual(twin.weights(), ())
        self.assertEqual(twin.undo(), True)
        self.assertEqual(desk.redo(), False)


class Told(Case):
    def test_what_was_told_does_not_change(self):
        desk = Kept(FORM)
        desk.put((0, 0), 1)
        desk.put((-1, 0), 1)
        told = [desk.counts(), desk.weights(), desk.last(), desk.table(), desk.book_now()]
        kept = [desk.counts(), desk.weights(), desk.last(), desk.table(), desk.book_now()]
        desk.put((0, 0), 7)
        desk.take((-1, 0), 1)
        self.assertTrue(all(map(same, told, kept)))
        self.assertEqual(frac(desk.answer_now(ALL)), 1)

    def test_no_length_and_nothing_to_iterate(self):
        for call in (len, iter, list):
            with self.assertRaises(TypeError):
                call(Kept(FORM))


if __name__ == "__main__":
    unittest.main()
