"""Points [30] to [32]: tallies."""

import itertools
import unittest

from checks import Case
from helpers import FORM, HUGE, WIDE, any_values, deep, every_sheet, mutants, same, seeded
from test_forms import fault as form_fault
from whyblank.books import Book
from whyblank.errors import InvalidSheets, InvalidSize
from whyblank.forms import Form
from whyblank.sheets import Sheets
from whyblank.tallies import Tally, heard, is_tally, merged, missing_letters, need_letter, need_tally, tally_of

ROWS = ((3, 0, ((), (0, -1), (0, 0))), (4, 0, ((1, 1),)), (5, 2, ((),)), (7, 1, ((-1, 1),)))
TALLY = Tally(FORM, ROWS)
EMPTY = Tally(FORM, ())
LATE = 10 ** 20 - 1


def is_word(form, value):
    return same(value, ()) or any(same(value, sheet) for sheet in every_sheet(form))


def is_letter(form, value):
    if type(value) is not tuple or len(value) != 3:
        return False
    return all(type(one) is int and one >= 0 for one in value[:2]) and is_word(form, value[2])


def fault(value):
    """What is wrong with any value as a tally, told apart from the package."""
    if type(value) is not Tally or form_fault(value.form) is not None or type(value.rows) is not tuple:
        return -1
    for at, row in enumerate(value.rows):
        if type(row) is not tuple or len(row) != 3 or any(type(one) is not int or one < 0 for one in row[:2]):
            return at
        if type(row[2]) is not tuple or not row[2] or not all(is_word(value.form, word) for word in row[2]):
            return at
        if list(row[2]) != sorted(set(row[2])) or (at and not value.rows[at - 1][0] < row[0]):
            return at
    return None


def plain_tally(form, letters):
    numbers = sorted({letter[0] for letter in letters})
    rows = []
    for number in numbers:
        edition = max(letter[1] for letter in letters if letter[0] == number)
        rows.append((number, edition, tuple(sorted({letter[2] for letter in letters if letter[:2] == (number, edition)}))))
    return Tally(form, tuple(rows))


def some_letters(random, form, many, numbers=4):
    words = every_sheet(form) + [()] * 3
    editions = [0, 0, 1, 2, LATE]
    return [(random.choice([random.randrange(numbers), LATE]), random.choice(editions), random.choice(words)) for _ in range(many)]


def letters_in(tally):
    return [(number, edition, word) for number, edition, words in tally.rows for word in words]


class Letters(Case):
    def test_letters(self):
        for letter in [(0, 0, ()), (7, 1, (-1, 1)), (LATE, LATE, (0, 0)), (0, 0, (-1, -1))]:
            self.assertIsNone(need_letter(FORM, letter))
        self.assertIsNone(need_letter(value=(0, 0, ()), form=FORM))

    def test_wrong_letters(self):
        wrong = [
            None, (), (0, 0), (0, 0, (), ()), [0, 0, ()], (-1, 0, ()), (0, -1, ()), (True, 0, ()), (0, False, ()), ("0", 0, ()), (0, None, ()),
            (0, 0, []), (0, 0, [0, 0]), (0, 0, (0,)), (0, 0, (0, 2)), (0, 0, (-2, 0)), (0, 0, (True, 0)), (0, 0, None), (0, 0, ((),)), HUGE,
            (0, 0, (0, 0, 0)), (FORM, 0, ()), (0, 0, FORM), deep((0, 0, ())),
        ]
        for value in wrong:
            self.fails(InvalidSize, "letter", need_letter, FORM, value)

    def test_any_values(self):
        for value in any_values() + list(mutants((0, 1, (0, -1)))) + list(mutants((1, 0, ()))):
            if is_letter(FORM, value):
                self.assertIsNone(need_letter(FORM, value))
            else:
                self.fails(InvalidSize, "letter", need_letter, FORM, value)


class Tallies(Case):
    def test_a_tally_checks_nothing(self):
        for value in any_values():
            tally = Tally(value, rows=value)
            self.assertTrue(same(tally.form, value) and same(tally.rows, value))
            self.assertEqual(sorted(vars(tally)), ["form", "rows"])

    def test_equal(self):
        self.assertEqual(TALLY, Tally(Form(FORM.questions), ROWS))
        self.assertNotEqual(TALLY, Tally(WIDE, ROWS))
        self.assertNotEqual(TALLY, Tally(FORM, ROWS[1:]))
        self.assertFalse(EMPTY == Book(FORM, ()))
        self.assertFalse(EMPTY == Sheets(FORM, ()))
        for value in any_values():
            self.assertEqual(EMPTY == value, same(EMPTY, value))

    def test_tallies(self):
        for tally in (TALLY, EMPTY, Tally(WIDE, ((0, 0, ((),)),)), Tally(FORM, ((LATE, LATE, ((1, 1),)),))):
            self.assertIsNone(need_tally(tally))
            self.assertIs(is_tally(tally), True)
        self.assertIsNone(need_tally(value=TALLY))
        self.assertIs(is_tally(value=TALLY), True)

    def test_no_tally_of_a_form_and_a_tuple(self):
        for value in [None, ROWS, Tally(None, ROWS), Tally(FORM, list(ROWS)), Tally(FORM, None), Tally(Form(()), ()), Book(FORM, ()), HUGE]:
            self.fails(InvalidSheets, -1, need_tally, value)
            self.assertIs(is_tally(value), False)

    def test_wrong_rows(self):
        wrong = [
            None, (), (0, 0), (0, 0, ((),), 1), [0, 0, ((),)], (-1, 0, ((),)), (0, -1, ((),)), (True, 0, ((),)), (0, True, ((),)), (0, 0, ()),
            (0, 0, [()]), (0, 0, ([],)), (0, 0, ((0, 0), ())), (0, 0, ((), ())), (0, 0, ((0, 0), (0, 0))), (0, 0, ((0, 2),)),
            (0, 0, ((True, 0),)), (0, 0, (None,)), (0, 0, ((0, 1), (0, 0))), (0, 0, None), (0, 0, "a"), (0, 0, ((0,),)),
        ]
        for row in wrong:
            self.fails(InvalidSheets, 0, need_tally, Tally(FORM, (row,)))
            self.fails(InvalidSheets, 1, need_tally, Tally(FORM, ((0, 0, ((),)), row)))
            self.fails(InvalidSheets, 0, need_tally, Tally(FORM, (row, row)))
        self.fails(InvalidSheets, 1, need_tally, Tally(FORM, (ROWS[1], ROWS[1])))
        self.fails(InvalidSheets, 1, need_tally, Tally(FORM, (ROWS[1], ROWS[0])))
        self.fails(InvalidSheets, 2, need_tally, Tally(FORM, (ROWS[0], ROWS[1], (4, 9, ((),)))))

    def test_any_values(self):
        for value in any_values() + list(mutants(TALLY)) + list(mutants(Tally(FORM, ((0, 1, ((), (0, 1))),)))):
            self.assertEqual(self.need_and_is(need_tally, is_tally, InvalidSheets, value), fault(value))


class Heard(Case):
    def test_tally_of(self):
        random = seeded(60)
        for _ in range(120):
            letters = some_letters(random, FORM, random.randrange(0, 20))
            expected = plain_tally(FORM, letters)
            kept = list(letters)
            for held in (letters, tuple(letters)):
                found = tally_of(FORM, held)
                self.assertTrue(same(found, expected))
                self.assertIs(is_tally(found), True)
            self.assertEqual(letters, kept)
        self.assertTrue(same(tally_of(FORM, ()), EMPTY))
        self.assertTrue(same(tally_of(letters=[], form=FORM), EMPTY))

    def test_in_all_orders_and_twice(self):
        letters = [(3, 0, (0, 0)), (3, 0, (0, -1)), (3, 1, ()), (3, 1, (1, 1)), (4, 0, (1, 1))]
        expected = tally_of(FORM, letters)
        self.assertEqual(expected.rows, ((3, 1, ((), (1, 1))), (4, 0, ((1, 1),))))
        for order in itertools.permutations(letters):
            self.assertTrue(same(tally_of(FORM, order), expected))
            self.assertTrue(same(tally_of(FORM, order + order[:3]), expected))
            one_by_one = tally_of(FORM, ())
            for letter in order + order[::-1]:
                one_by_one = heard(one_by_one, letter)
            self.assertTrue(same(one_by_one, expected))

    def test_heard(self):
        random = seeded(61)
        for _ in range(80):
            letters = some_letters(random, FORM, random.randrange(0, 12))
            tally = tally_of(FORM, letters)
            kept = Tally(tally.form, tally.rows)
            letter = some_letters(random, FORM, 1)[0]
            self.assertTrue(same(heard(tally, letter), plain_tally(FORM, letters + [letter])))
            self.assertTrue(same(tally, kept))
        self.assertEqual(heard(letter=(0, 0, ()), tally=EMPTY).rows, ((0, 0, ((),)),))

    def test_lesser_editions_are_taken_back(self):
        tally = tally_of(FORM, [(7, 3, ())])
        self.assertEqual(heard(tally, (7, 2, (0, 0))), tally)
        self.assertEqual(heard(tally, (7, 3, (0, 0))).rows, ((7, 3, ((), (0, 0))),))
        self.assertEqual(heard(tally, (7, 4, (0, 0))).rows, ((7, 4, ((0, 0),)),))


class Merged(Case):
    def test_unlike_forms(self):
        other = Tally(WIDE, ())
        for call in (merged, missing_letters):
            self.fails(InvalidSize, "form", call, TALLY, other)
            self.fails(InvalidSize, "form", call, other, EMPTY)
        self.assertEqual(merged(TALLY, Tally(Form(FORM.questions), ())), TALLY)

    def test_merged_is_that_of_all_letters(self):
        random = seeded(62)
        for _ in range(100):
            heaps = [some_letters(random, FORM, random.randrange(0, 12)) for _ in range(3)]
            one, two, three = [tally_of(FORM, heap) for heap in heaps]
            self.assertTrue(same(merged(one, two), plain_tally(FORM, heaps[0] + heaps[1])))
            self.assertTrue(same(merged(two, one), merged(one, two)))
            self.assertTrue(same(merged(one, one), one))
            self.assertTrue(same(merged(one, EMPTY), one))
            whole = plain_tally(FORM, heaps[0] + heaps[1] + heaps[2])
            for first, second, third in itertools.permutations((one, two, three)):
                self.assertTrue(same(merged(merged(first, second), third), whole))
                self.assertTrue(same(merged(first, merged(second, third)), whole))
                self.assertTrue(same(merged(merged(first, second), merged(second, merged(third, first))), whole))
        self.assertEqual(merged(other=EMPTY, one=TALLY), TALLY)

    def test_missing_letters(self):
        random = seeded(63)
        for _ in range(150):
            one = tally_of(FORM, some_letters(random, FORM, random.randrange(0, 14), 3))
            other = tally_of(FORM, some_letters(random, FORM, random.randrange(0, 14), 3))
            rows = {number: (edition, words) for number, edition, words in other.rows}
            expected = []
            for number, edition, words in one.rows:
                had = rows.get(number, (-1, ()))
                if had[0] < edition:
                    expected += [(number, edition, word) for word in words]
                elif had[0] == edition:
                    expected += [(number, edition, word) for word in words if word not in had[1]]
            missing = missing_letters(one, other)
            self.assertTrue(same(missing, tuple(sorted(expected))))
            self.assertEqual(tally_of(FORM, letters_in(other) + list(missing)), merged(one, other))
        self.assertEqual(missing_letters(other=EMPTY, one=Tally(FORM, ROWS[1:2])), ((4, 0, (1, 1)),))
        self.assertEqual(missing_letters(EMPTY, TALLY), ())
        self.assertEqual(missing_letters(TALLY, TALLY), ())

    def test_no_fewer_letters_do(self):
        random = seeded(64)
        for _ in range(30):
            one = tally_of(FORM, some_letters(random, FORM, 5, 2))
            other = tally_of(FORM, some_letters(random, FORM, 5, 2))
            whole, missing = merged(one, other), missing_letters(one, other)
            pool = letters_in(whole)
            for many in range(len(missing)):
                for some in itertools.combinations(pool, many):
                    self.assertNotEqual(tally_of(FORM, letters_in(other) + list(some)), whole)


if __name__ == "__main__":
    unittest.main()
