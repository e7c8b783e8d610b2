"""Points [1], [7] and [8]: forms, truths, lots and single sheets."""

import unittest

from checks import Case
from helpers import (
    FORM, HUGE, WIDE, any_values, blanked, deep, every_sheet, every_truth, mutants, names, random_form, same, seeded, subsets,
)
from whyblank.charts import Chart
from whyblank.errors import InvalidForm, NoName
from whyblank.forms import (
    Form, all_sheets, answers_of, is_form, is_lot, is_sheet, is_truth, lot_of, lots, lots_within, names_of, need_form, place_of,
    sheet_of, truths, truths_behind, without_names,
)

ONE_QUESTION = Form((("a", 2),))
EIGHT = Form(tuple((letter * 8, 9) for letter in "abcdefgh"))
LETTERS = "abcdefghijklmnopqrstuvwxyz"


def is_plain_name(value):
    return type(value) is str and 1 <= len(value) <= 8 and all(letter in LETTERS for letter in value)


def fault(value):
    if type(value) is not Form or type(value.questions) is not tuple or len(value.questions) not in range(1, 9):
        return -1
    for at, one in enumerate(value.questions):
        if type(one) is not tuple or len(one) != 2 or not is_plain_name(one[0]):
            return at
        if type(one[1]) is not int or one[1] not in range(2, 10):
            return at
        if at and not value.questions[at - 1][0] < one[0]:
            return at
    return None


class Forms(Case):
    def test_a_form_checks_nothing(self):
        for value in any_values():
            self.assertTrue(same(Form(value).questions, value))
            self.assertEqual(list(vars(Form(questions=value))), ["questions"])
        held = [("a", 2)]
        form = Form(held)
        self.assertIs(form.questions, held)

    def test_equal(self):
        self.assertEqual(Form((("a", 2),)), Form((("a", 2),)))
        self.assertNotEqual(Form((("a", 2),)), Form((("a", 3),)))
        self.assertNotEqual(Form((("a", 2),)), Form((("b", 2),)))
        self.assertEqual(Form(None), Form(None))
        for value in any_values():
            self.assertEqual(FORM == value, type(value) is Form and value.questions == FORM.questions)
            self.assertEqual(FORM != value, not FORM == value)
        self.assertFalse(FORM == FORM.questions)
        self.assertFalse(FORM == Chart(FORM, (), ()))

    def test_no_length_and_nothing_to_iterate(self):
        with self.assertRaises(TypeError):
            len(FORM)
        with self.assertRaises(TypeError):
            iter(FORM)

    def test_forms(self):
        for form in (ONE_QUESTION, EIGHT, FORM, WIDE, Form((("a", 9), ("b", 2)))):
            self.assertIsNone(need_form(form))
            self.assertIs(is_form(form), True)
        self.assertIsNone(need_form(value=FORM))
        self.assertIs(is_form(value=FORM), True)

    def test_no_form_of_1_to_8_things(self):
        wrong = [None, (("a", 2),), [("a", 2)], Form(()), Form([("a", 2)]), Form(None), Form("a"), Form(HUGE), Form(FORM)]
        nine = tuple((letter, 2) for letter in "abcdefghi")
        for value in wrong + [Form(nine), Form(deep((), list)), Chart(FORM, (), ())]:
            self.fails(InvalidForm, -1, need_form, value)
            self.assertIs(is_form(value), False)

    def test_wrong_questions(self):
        wrong = [
            None, "a", ("a",), ("a", 2, 3), ["a", 2], ("a", 1), ("a", 10), ("a", 0), ("a", -2), ("a", True), ("a", "2"), ("a", None),
            ("", 2), ("A", 2), ("aB", 2), ("a" * 9, 2), ("a1", 2), ("a b", 2), ("\u00e4", 2), ("\u03b1", 2), (1, 2), (None, 2),
            (("a",), 2), ("a", HUGE), ("a", (2,)), (FORM, 2), ("a", FORM), ("a_", 2), ("a\n", 2), deep("a"), (deep("a"), 2),
        ]
        for one in wrong:
            self.fails(InvalidForm, 0, need_form, Form((one,)))
            self.fails(InvalidForm, 0, need_form, Form((one, ("z", 2))))
            self.fails(InvalidForm, 1, need_form, Form((("a", 2), one)))
            self.fails(InvalidForm, 1, need_form, Form((("a", 2), one, one)))

    def test_names_not_above(self):
        self.fails(InvalidForm, 1, need_form, Form((("b", 2), ("a", 2))))
        self.fails(InvalidForm, 1, need_form, Form((("a", 2), ("a", 3))))
        self.fails(InvalidForm, 2, need_form, Form((("a", 2), ("c", 2), ("b", 2), ("a", 2))))
        self.assertIs(is_form(Form((("a", 2), ("aa", 2), ("ab", 2)))), True)

    def test_the_first_wrong_one_is_told(self):
        self.fails(InvalidForm, 1, need_form, Form((("a", 2), ("a", 2), ("b", 99))))
        self.fails(InvalidForm, 0, need_form, Form((("a", 99), ("a", 2))))

    def test_any_values(self):
        for value in any_values() + list(mutants(FORM)) + list(mutants(WIDE)) + list(mutants(ONE_QUESTION)):
            self.assertEqual(self.need_and_is(need_form, is_form, InvalidForm, value), fault(value), value)


class Things(Case):
    def test_truths_lots_sheets(self):
        for form in (ONE_QUESTION, FORM, WIDE, Form((("a", 9),)), Form((("a", 4), ("b", 4), ("c", 3), ("d", 2)))):
            self.assertTrue(same(truths(form), tuple(every_truth(form))))
            self.assertTrue(same(all_sheets(form), tuple(every_sheet(form))))
            self.assertTrue(same(lots(form), tuple(subsets(names(form)))))
            self.assertTrue(same(names_of(form), tuple(names(form))))
            for found in (truths(form), all_sheets(form), lots(form)):
                self.assertEqual(list(found), sorted(set(found)))
        self.assertEqual(lots(FORM), ((), ("debts",), ("debts", "earns"), ("earns",)))
        self.assertEqual(truths(form=ONE_QUESTION), ((0,), (1,)))
        self.assertEqual(all_sheets(form=ONE_QUESTION), ((-1,), (0,), (1,)))

    def test_is_truth_is_sheet_is_lot(self):
        calls = ((is_truth, every_truth), (is_sheet, every_sheet), (is_lot, lambda form: subsets(names(form))))
        for form in (ONE_QUESTION, FORM, WIDE):
            for tells, every in calls:
                right = every(form)
                values = any_values() + right
                for one in right:
                    values = values + list(mutants(one))
                for value in values:
                    expected = any(same(value, one) for one in right)
                    self.assertIs(tells(form, value), expected, value)
                self.assertIs(tells(form=form, value=right[0]), True)

    def test_truths_are_tuples_of_integers(self):
        for value in [(True, 0), (0, False), [0, 0], (0,), (0, 0, 0), (0, 2), (-1, 0), (0, None), (0, "0"), (HUGE, 0), (0, (0,))]:
            self.assertIs(is_truth(FORM, value), False)
        for value in [(True, 0), (-1, False), [-1, 0], (-2, 0), (0, 2), (-1,), (-1, -1, -1), (-1, None)]:
            self.assertIs(is_sheet(FORM, value), False)
        for value in [["debts"], ("earns", "debts"), ("debts", "debts"), ("pets",), "debts", (("debts",),), ("debts", None), (0,)]:
            self.assertIs(is_lot(FORM, value), False)

    def test_big_forms(self):
        self.assertIs(is_truth(EIGHT, (8,) * 8), True)
        self.assertIs(is_truth(EIGHT, (8,) * 7 + (9,)), False)
        self.assertIs(is_sheet(EIGHT, (-1,) * 8), True)
        self.assertIs(is_lot(EIGHT, names_of(EIGHT)), True)

    def test_place_and_answers(self):
        for place, (name, many) in enumerate(WIDE.questions):
            self.assertEqual(place_of(WIDE, name), place)
            self.assertEqual(answers_of(WIDE, name), many)
        self.assertEqual(place_of(form=WIDE, name="drink"), 1)
        self.assertEqual(answers_of(form=WIDE, name="drink"), 3)

    def test_no_such_name(self):
        for value in any_values():
            if value in ("debts", "drink", "pets"):
                continue
            for call in (place_of, answers_of):
                with self.assertRaises(NoName) as held:
                    call(WIDE, value)
                self.assertIs(held.exception.name, value)

    def test_sheets_of_lots_and_truths(self):
        for form in (ONE_QUESTION, FORM, WIDE):
            for lot in subsets(names(form)):
                for truth in every_truth(form):
                    sheet = sheet_of(form, lot, truth)
                    self.assertTrue(same(sheet, blanked(form, lot, truth)))
                    self.assertTrue(same(lot_of(form, sheet), lot))
                    behind = tuple(one for one in every_truth(form) if blanked(form, lot, one) == sheet)
                    self.assertTrue(same(truths_behind(form, sheet), behind))
        self.assertEqual(sheet_of(form=FORM, lot=("debts",), truth=(1, 0)), (-1, 0))
        self.assertEqual(lot_of(form=FORM, sheet=(-1, 0)), ("debts",))
        self.assertEqual(truths_behind(form=FORM, sheet=(-1, 1)), ((0, 1), (1, 1)))

    def test_lots_within(self):
        for form in (ONE_QUESTION, FORM, WIDE):
            for lot in subsets(names(form)):
                self.assertTrue(same(lots_within(lot), tuple(subsets(lot))))
        self.assertEqual(lots_within(()), ((),))
        self.assertEqual(lots_within(lot=("b",)), ((), ("b",)))

    def test_without_names(self):
        for lot in subsets(names(WIDE)):
            for other in subsets(names(WIDE)):
                left = tuple(name for name in lot if name not in other)
                self.assertTrue(same(without_names(lot, other), left))
        self.assertEqual(without_names(names=("a",), lot=("a", "b")), ("b",))

    def test_random_forms(self):
        random = seeded(3)
        for _ in range(50):
            form = random_form(random, 4, 4)
            self.assertIs(is_form(form), True)
            self.assertEqual(len(truths(form)), len(every_truth(form)))


if __name__ == "__main__":
    unittest.main()
