"""Points [59] and [60]: asks."""

import unittest
from fractions import Fraction

from checks import Case
from helpers import (
    FORM, HUGE, WIDE, any_values, as_dict, book_with, deep, every_truth, frac, mutants, names, nested, pair_of, plain_answer_by, plain_test,
    plain_worth, random_ask, random_book, random_form, random_test, random_worth, same, seeded, subsets,
)
from whyblank.asks import Ask, answer_by, is_ask, is_given, is_plain, need_ask, worth_at
from whyblank.errors import InvalidAsk, Refused
from whyblank.forms import Form

ODD = Form((("all", 2), ("blank", 3), ("given", 2), ("is", 2)))
RIGHT = Ask(
    ("plus", ("times", ("answer", "debts"), ("number", -3)), ("if", ("not", ("is", "earns", 1)))),
    ("either", ("both", ("blank", "debts"), ("all",)), ("is", "debts", 0)),
)


def is_test(form, value):
    """Whether any value is a test, told apart from the package."""
    if type(value) is not tuple or not value or type(value[0]) is not str:
        return False
    known = dict(form.questions)
    if value[0] == "all":
        return len(value) == 1
    if value[0] == "is":
        right = len(value) == 3 and type(value[1]) is str and value[1] in known
        return right and type(value[2]) is int and value[2] in range(known[value[1]])
    if value[0] == "blank":
        return len(value) == 2 and type(value[1]) is str and value[1] in known
    many = {"not": 2, "both": 3, "either": 3}.get(value[0], 0)
    return len(value) == many and all(is_test(form, one) for one in value[1:])


def is_worth(form, value):
    """Whether any value is a worth, told apart from the package."""
    if type(value) is not tuple or not value or type(value[0]) is not str:
        return False
    if value[0] == "number":
        return len(value) == 2 and type(value[1]) is int
    if value[0] == "answer":
        return len(value) == 2 and type(value[1]) is str and value[1] in dict(form.questions)
    if value[0] == "if":
        return len(value) == 2 and is_test(form, value[1])
    return value[0] in ("plus", "times") and len(value) == 3 and all(is_worth(form, one) for one in value[1:])


def names_blanks(phrase):
    """Whether a test of a blank stands in a test or a worth."""
    parts = {"not": phrase[1:], "both": phrase[1:], "either": phrase[1:], "if": phrase[1:], "plus": phrase[1:], "times": phrase[1:]}
    return phrase[0] == "blank" or any(names_blanks(part) for part in parts.get(phrase[0], ()))


def fault(form, value):
    if type(value) is not Ask:
        return -1
    if not is_worth(form, value.worth):
        return 0
    return None if is_test(form, value.given) else 1


class Judged(Case):
    def agrees(self, form, value):
        told = self.need_and_is(lambda one: need_ask(form, one), lambda one: is_ask(form, one), InvalidAsk, value)
        self.assertTrue(same(told, fault(form, value)), value)

    def test_right_asks(self):
        random = seeded(150)
        for _ in range(150):
            form = random.choice([FORM, WIDE, ODD, random_form(random)])
            one = random_ask(random, form, random.randrange(1, 7))
            self.agrees(form, one)
            self.assertIs(is_ask(form, one), True)
        self.assertIsNone(need_ask(form=FORM, value=RIGHT))
        self.assertIs(is_ask(value=RIGHT, form=FORM), True)
        self.assertIs(is_ask(FORM, Ask(("number", HUGE), nested(30))), True)

    def test_any_values(self):
        for value in any_values():
            self.agrees(FORM, value)
            self.agrees(FORM, Ask(value, ("all",)))
            self.agrees(FORM, Ask(("number", 1), value))
            self.agrees(FORM, Ask(value, value))
            self.agrees(FORM, Ask(("number", value), ("all",)))
            self.agrees(FORM, Ask(("answer", value), ("is", value, 0)))
            self.agrees(FORM, Ask(("if", value), ("not", value)))
            self.agrees(FORM, Ask(("number", 0), ("is", "debts", value)))
            self.agrees(FORM, Ask(("plus", value, ("number", 0)), ("both", ("all",), value)))

    def test_turned_at_any_depth(self):
        for value in mutants(RIGHT):
            self.agrees(FORM, value)
        for form in (ODD, Form((("debts", 3),))):
            self.agrees(form, RIGHT)
            for value in mutants(Ask(("answer", "all"), ("is", "is", 1))):
                self.agrees(form, value)

    def test_what_is_wrong_first(self):
        self.fails(InvalidAsk, -1, need_ask, FORM, (("number", 1), ("all",)))
        self.fails(InvalidAsk, 0, need_ask, FORM, Ask(("all",), ("number", 1)))
        self.fails(InvalidAsk, 0, need_ask, FORM, Ask(None, None))
        self.fails(InvalidAsk, 1, need_ask, FORM, Ask(("number", 1), ("number", 1)))
        for test in [("is", "debts", 2), ("is", "debts", -1), ("is", "debts", True), ("is", "other", 0), ("is", "debts"), ["all"], ("all", 1)]:
            self.fails(InvalidAsk, 1, need_ask, FORM, Ask(("number", 1), test))
            self.fails(InvalidAsk, 0, need_ask, FORM, Ask(("if", test), ("all",)))
        for worth in [("number", True), ("number", "1"), ("answer", "other"), ("plus", ("number", 1)), ("if", ("number", 1)), ("sum", 1), ()]:
            self.fails(InvalidAsk, 0, need_ask, FORM, Ask(worth, ("all",)))
        self.fails(InvalidAsk, 1, need_ask, FORM, Ask(("number", 1), deep(("all",))))

    def test_classes(self):
        self.assertTrue(Ask(("number", 1), ("all",)) == Ask(given=("all",), worth=("number", 1)))
        self.assertFalse(Ask(("number", 1), ("all",)) == Ask(("number", 2), ("all",)))
        self.assertFalse(Ask(("number", 1), ("all",)) == Ask(("number", 1), ("not", ("all",))))
        for value in any_values():
            self.assertFalse(Ask(1, 2) == value)
            kept = Ask(value, [value])
            self.assertTrue(same(kept.worth, value) and same(kept.given, [value]))


class Read(Case):
    def test_given_and_worth(self):
        random = seeded(151)
        for _ in range(80):
            form = random.choice([FORM, ODD, random_form(random)])
            one = random_ask(random, form, 5)
            for lot in subsets(names(form)):
                for truth in every_truth(form):
                    self.assertIs(is_given(form, one, lot, truth), plain_test(form, one.given, lot, truth))
                    self.assertTrue(same(worth_at(form, one, lot, truth), plain_worth(form, one.worth, lot, truth)))
        self.assertIs(is_given(truth=(0, 1), lot=("debts",), ask=RIGHT, form=FORM), True)
        self.assertEqual(worth_at(truth=(1, 1), lot=(), ask=RIGHT, form=FORM), -3)

    def test_each_word(self):
        told = [
            (("all",), (), (0, 0), True), (("is", "debts", 0), (), (0, 1), True), (("is", "earns", 0), (), (0, 1), False),
            (("blank", "debts"), ("debts",), (0, 0), True), (("blank", "debts"), ("earns",), (0, 0), False), (("not", ("all",)), (), (0, 0), False),
            (("is", "debts", 0), ("debts",), (0, 1), True),
        ]
        for test, lot, truth, expected in told:
            self.assertIs(is_given(FORM, Ask(("number", 1), test), lot, truth), expected)
        for one in (True, False):
            for other in (True, False):
                pair = tuple(("all",) if some else ("not", ("all",)) for some in (one, other))
                self.assertIs(is_given(FORM, Ask(("number", 1), ("both",) + pair), (), (0, 0)), one and other)
                self.assertIs(is_given(FORM, Ask(("number", 1), ("either",) + pair), (), (0, 0)), one or other)
        worths = [
            (("number", -7), -7), (("answer", "earns"), 1), (("if", ("all",)), 1), (("if", ("not", ("all",))), 0),
            (("plus", ("number", 2), ("number", 5)), 7), (("times", ("number", 2), ("number", -5)), -10),
        ]
        for worth, expected in worths:
            # The worth is told whether the test holds or not.
            for test in (("all",), ("not", ("all",))):
                self.assertTrue(same(worth_at(FORM, Ask(worth, test), (), (0, 1)), expected))

    def test_plain(self):
        random = seeded(152)
        for _ in range(60):
            form = random.choice([FORM, ODD])
            self.assertIs(is_plain(random_ask(random, form, 5, True)), True)
            one = random_ask(random, form, 5)
            self.assertIs(is_plain(one), not names_blanks(one.worth) and not names_blanks(one.given))
        self.assertIs(is_plain(ask=RIGHT), False)
        self.assertIs(is_plain(Ask(("if", ("not", ("both", ("all",), ("blank", "debts")))), ("all",))), False)
        self.assertIs(is_plain(Ask(("answer", "blank"), ("is", "blank", 0))), True)
        self.assertIs(is_plain(Ask(("plus", ("number", 1), ("times", ("number", 1), ("if", ("blank", "is")))), ("all",))), False)


class Answers(Case):
    def test_word_by_word(self):
        random = seeded(153)
        nobody = 0
        for _ in range(200):
            book = random_book(random, random_form(random), random.choice([1, 3, 10, None]))
            one = random_ask(random, book.form, 4)
            expected = plain_answer_by(book, one)
            if expected is None:
                nobody += 1
                self.fails(Refused, "nobody", answer_by, book, one)
            else:
                self.assertTrue(same(answer_by(book, one), pair_of(expected)))
        self.assertGreater(nobody, 10)

    def test_nobody(self):
        book = book_with(FORM, {((), (0, 0)): 1, (("debts",), (0, 1)): 1})
        for test in [("not", ("all",)), ("is", "debts", 1), ("blank", "earns"), ("both", ("blank", "debts"), ("is", "earns", 0))]:
            self.fails(Refused, "nobody", answer_by, book, Ask(("number", 1), test))
        self.assertEqual(answer_by(ask=Ask(("number", 0), ("blank", "debts")), book=book), (0, 1))

    def test_means_of_sums(self):
        random = seeded(154)
        for _ in range(80):
            book = random_book(random, random_form(random), 9)
            test = random_test(random, book.form)
            one, other = random_worth(random, book.form), random_worth(random, book.form)
            if plain_answer_by(book, Ask(one, test)) is not None:
                means = [frac(answer_by(book, Ask(worth, test))) for worth in (one, other, ("plus", one, other))]
                self.assertEqual(means[0] + means[1], means[2])

    def test_between_means(self):
        random = seeded(155)
        tried = 0
        while tried < 60:
            book = random_book(random, random_form(random), 9)
            one, worth = random_test(random, book.form), random_worth(random, book.form)
            other = ("both", ("not", one), random_test(random, book.form))
            shares = []
            for test in (one, other):
                shares.append(sum(share for (lot, truth), share in as_dict(book).items() if plain_test(book.form, test, lot, truth)))
            if 0 in shares:
                continue
            tried += 1
            low, high, both = [frac(answer_by(book, Ask(worth, test))) for test in (one, other, ("either", one, other))]
            self.assertTrue(min(low, high) <= both <= max(low, high))
            self.assertEqual(both, (low * shares[0] + high * shares[1]) / sum(shares))

    def test_great_numbers_and_depths(self):
        worth = ("number", 10 ** 20 - 1)
        for _ in range(10):
            worth = ("times", worth, ("number", 1 - 10 ** 20))
        book = random_book(seeded(156), FORM)
        self.assertEqual(answer_by(book, Ask(worth, nested(11))), ((10 ** 20 - 1) * (10 ** 20 - 1) ** 10, 1))
        self.assertEqual(Fraction(1), sum(as_dict(book).values()))


if __name__ == "__main__":
    unittest.main()
