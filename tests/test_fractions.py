"""Points [5] and [6]: fractions."""

import unittest
from fractions import Fraction
from math import gcd

from checks import Case
from helpers import HUGE, any_values, deep, frac, mutants, pair_of, same, seeded
from whyblank.errors import InvalidFraction, InvalidSize, InvalidText
from whyblank.fractions import (
    HALF, ONE, ZERO, compared, fraction, fraction_text, greatest_of, is_fraction, least_of, minus, need_fraction, over,
    plus, product_all, read_fraction, same_product, sign_of, times, total_of, whole,
)

SIXTY = 10 ** 60 - 1
SOME = [(0, 1), (1, 1), (-1, 1), (1, 2), (-1, 2), (2, 3), (-7, 3), (22, 7), (SIXTY, 10 ** 59), (-SIXTY, 2), (1, SIXTY)]


def fault(value):
    """What is wrong with any value as a fraction, told apart from the package."""
    plain = type(value) is tuple and len(value) == 2 and type(value[0]) is int and type(value[1]) is int
    if not plain:
        return -1
    if value[1] < 1:
        return 1
    return 0 if gcd(*value) != 1 else None


class Kinds(Case):
    def test_constants(self):
        self.assertTrue(same((ZERO, ONE, HALF), ((0, 1), (1, 1), (1, 2))))

    def test_fractions(self):
        for one in SOME:
            self.assertIsNone(need_fraction(one))
            self.assertIs(is_fraction(one), True)
            self.assertIsNone(need_fraction(value=one))

    def test_no_tuple_of_two_integers(self):
        wrong = [None, 1, "1/2", [1, 2], (1,), (1, 2, 3), (), (True, 2), (1, True), (False, 1), ("1", 2), (1, "2"), (1, None)]
        for value in wrong + [((1, 2), 3), ([1], 2), deep(1), HUGE]:
            self.fails(InvalidFraction, -1, need_fraction, value)
            self.assertIs(is_fraction(value), False)

    def test_bottom_not_above_0(self):
        for value in [(1, 0), (1, -1), (0, 0), (2, -4), (0, -1), (4, 0), (HUGE, -HUGE)]:
            self.fails(InvalidFraction, 1, need_fraction, value)
            self.assertIs(is_fraction(value), False)

    def test_something_divides_both(self):
        for value in [(2, 4), (0, 2), (-2, 2), (3, 3), (0, HUGE), (HUGE, HUGE), (-15, 10)]:
            self.fails(InvalidFraction, 0, need_fraction, value)
            self.assertIs(is_fraction(value), False)

    def test_any_values(self):
        for value in any_values() + list(mutants((1, 2))) + list(mutants((-3, 4))):
            self.assertEqual(self.need_and_is(need_fraction, is_fraction, InvalidFraction, value), fault(value))


class Sums(Case):
    def test_fraction_is_the_quotient(self):
        for top in [0, 1, -1, 6, -6, SIXTY, -SIXTY]:
            for bottom in [1, -1, 4, -4, SIXTY, -(10 ** 59)]:
                self.assertTrue(same(fraction(top, bottom), pair_of(Fraction(top, bottom))))
        self.assertEqual(fraction(bottom=-4, top=6), (-3, 2))

    def test_fraction_by_0(self):
        for top in (0, 1, -1, SIXTY):
            self.fails(InvalidSize, "bottom", fraction, top, 0)

    def test_whole(self):
        for number in (0, 1, -5, SIXTY):
            self.assertTrue(same(whole(number), (number, 1)))
        self.assertEqual(whole(number=3), (3, 1))

    def test_two_fractions(self):
        for one in SOME:
            for other in SOME:
                left, right = frac(one), frac(other)
                self.assertTrue(same(plus(one, other), pair_of(left + right)))
                self.assertTrue(same(minus(one, other), pair_of(left - right)))
                self.assertTrue(same(times(one, other), pair_of(left * right)))
                self.assertEqual(compared(one, other), (left > right) - (left < right))
                if other == ZERO:
                    self.fails(InvalidSize, "bottom", over, one, other)
                else:
                    self.assertTrue(same(over(one, other), pair_of(left / right)))
        self.assertEqual(minus(other=(1, 3), one=(1, 2)), (1, 6))
        self.assertEqual(over(other=(1, 3), one=(1, 2)), (3, 2))

    def test_same_product(self):
        random = seeded(84)
        for _ in range(300):
            some = [random.choice(SOME[:8]) for _ in range(4)]
            worths = [frac(one) for one in some]
            self.assertIs(same_product(*some), worths[0] * worths[1] == worths[2] * worths[3])
        self.assertIs(same_product((1, 2), (2, 3), (1, 6), (2, 1)), True)

    def test_results_of_comparing_are_integers(self):
        for one in SOME:
            for told in [sign_of(one)] + [compared(one, other) for other in SOME]:
                self.assertIs(told.__class__, int)
        self.assertEqual(compared(other=(1, 3), one=(1, 2)), 1)

    def test_sign(self):
        self.assertEqual([sign_of(one) for one in SOME], [0, 1, -1, 1, -1, 1, -1, 1, 1, -1, 1])

    def test_of_none(self):
        for empty in ([], ()):
            self.assertEqual(total_of(empty), (0, 1))
            self.assertEqual(product_all(empty), (1, 1))
            self.fails(InvalidSize, "some", least_of, empty)
            self.fails(InvalidSize, "some", greatest_of, empty)

    def test_of_several(self):
        random = seeded(1)
        for _ in range(200):
            some = [random.choice(SOME) for _ in range(random.randrange(1, 8))]
            worths = [frac(one) for one in some]
            product = Fraction(1)
            for worth in worths:
                product *= worth
            for held in (some, tuple(some)):
                self.assertTrue(same(total_of(held), pair_of(sum(worths))))
                self.assertTrue(same(product_all(held), pair_of(product)))
                self.assertTrue(same(least_of(held), pair_of(min(worths))))
                self.assertTrue(same(greatest_of(held), pair_of(max(worths))))

    def test_many_long_ones(self):
        random = seeded(2)
        some = [fraction(random.randrange(10 ** 60), random.randrange(1, 10 ** 60)) for _ in range(300)]
        self.assertEqual(total_of(some), pair_of(sum(map(frac, some))))
        self.assertEqual(least_of(some), pair_of(min(map(frac, some))))
        self.assertEqual(greatest_of(some), pair_of(max(map(frac, some))))

    def test_least_by_worth_not_by_top(self):
        self.assertEqual(least_of(((2, 5), (1, 2))), (2, 5))
        self.assertEqual(greatest_of(((2, 5), (1, 2))), (1, 2))

    def test_arguments_stay(self):
        some = [(1, 2), (1, 3)]
        for call in (total_of, product_all, least_of, greatest_of):
            call(some)
            self.assertEqual(some, [(1, 2), (1, 3)])


class Texts(Case):
    def test_texts(self):
        told = [((0, 1), "0"), ((1, 1), "1"), ((-1, 1), "-1"), ((1, 2), "1/2"), ((-22, 7), "-22/7"), ((10, 1), "10")]
        for one, text in told:
            self.assertEqual(fraction_text(one), text)
            self.assertTrue(same(read_fraction(text), one))
        self.assertEqual(fraction_text(one=(1, 2)), "1/2")
        self.assertEqual(read_fraction(value="1/2"), (1, 2))

    def test_long_texts(self):
        for digits in (1, 60, 63, 64, 65, 128, 129, 2000):
            for one in ((10 ** digits - 1, 10 ** digits), (10 ** digits + 1, 1), (-1, 10 ** digits), (10 ** digits, 3)):
                text = str(one[0]) + ("" if one[1] == 1 else "/" + str(one[1]))
                self.assertEqual(fraction_text(one), text)
                self.assertTrue(same(read_fraction(text), one))

    def test_texts_longer_than_python_writes(self):
        one = (10 ** 4500 + 1, 10 ** 4400)
        text = "1" + "0" * 4499 + "1/1" + "0" * 4400
        self.assertEqual(fraction_text(one), text)
        self.assertEqual(read_fraction(text), one)
        self.assertEqual(fraction_text((-one[0], one[1])), "-" + text)
        self.assertEqual(read_fraction("-" + text), (-one[0], one[1]))

    def test_no_string(self):
        for value in any_values():
            if not isinstance(value, str):
                self.fails(InvalidText, -1, read_fraction, value)

    def test_other_strings(self):
        wrong = [
            "", "-", "/", "1/", "/2", "-/2", "1/0", "0/0", "0/2", "2/4", "1/1", "-0", "00", "01", "1/02", "+1", " 1", "1 ", "1 /2",
            "1/ 2", "1/-2", "--1", "1/2/3", "1//2", "1.5", "a", "1_0", "\u00b2", "\u0661", "1/\u0662", "1\n", "\n1", "0x1", "1e2", "-1/1",
            "1/2\n", "- 1", "-01", "-1/02", "None", "0/1",
        ]
        for value in wrong:
            self.fails(InvalidText, 0, read_fraction, value)

    def test_a_sign_changed(self):
        for text in ("12/35", "-7/10", "100"):
            for at in range(len(text) + 1):
                for sign in "0159-/ a":
                    for value in (text[:at] + sign + text[at:], text[:at] + sign + text[at + 1:], text[:at] + text[at + 1:]):
                        try:
                            found = read_fraction(value)
                        except InvalidText as error:
                            self.assertEqual(error.at, 0)
                            self.assertFalse(is_text(value), value)
                        else:
                            self.assertEqual(fraction_text(found), value)
                            self.assertIs(is_fraction(found), True)


def is_text(value):
    """Whether a string is the text of a fraction, told apart from the package."""
    try:
        worth = Fraction(value)
    except (ValueError, ZeroDivisionError):
        return False
    return value == str(worth)


if __name__ == "__main__":
    unittest.main()
