"""Point [34]: desks that meet."""

import itertools
import unittest

from checks import Case
from helpers import FORM, WIDE, any_values, every_sheet, same, seeded
from whyblank.errors import InvalidSize
from whyblank.forms import Form
from whyblank.meetings import after_meetings, heard_from
from whyblank.tallies import is_tally, letters_of, merged, tally_of


def walks(many, meets, desk):
    """The desks from which a row of meetings leads to a desk, by walking on from each of them."""
    found = []
    for start in range(many):
        here = {start}
        for one, other in meets:
            if one in here or other in here:
                here |= {one, other}
        if desk in here:
            found.append(start)
    return tuple(found)


def random_meets(random, many, most=12):
    return [tuple(random.sample(range(many), 2)) for _ in range(random.randrange(most))] if many > 1 else []


def random_tallies(random, form, many):
    words = [()] + every_sheet(form)
    letters = [[(random.randrange(5), random.randrange(3), random.choice(words)) for _ in range(random.randrange(6))] for _ in range(many)]
    return [tally_of(form, some) for some in letters]


def is_meet(many, value):
    return type(value) is tuple and len(value) == 2 and all(type(one) is int and 0 <= one < many for one in value) and value[0] != value[1]


class Meetings(Case):
    def test_one_after_the_other(self):
        random = seeded(380)
        for _ in range(80):
            many = random.randrange(1, 7)
            tallies, meets = random_tallies(random, FORM, many), random_meets(random, many)
            kept = list(tallies)
            for one, other in meets:
                kept[one] = kept[other] = merged(kept[one], kept[other])
            for held in (meets, tuple(meets)):
                for some in (tallies, tuple(tallies)):
                    found = after_meetings(some, held)
                    self.assertTrue(same(found, tuple(kept)))
                    self.assertTrue(all(is_tally(tally) for tally in found))
        self.assertTrue(same(after_meetings(meets=[(0, 1)], tallies=kept[:1] * 2), tuple(kept[:1] * 2)))

    def test_no_meetings(self):
        tallies = random_tallies(seeded(381), FORM, 3)
        self.assertTrue(same(after_meetings(tallies, ()), tuple(tallies)))
        self.assertTrue(same(after_meetings((), ()), ()))
        self.assertTrue(same(after_meetings([], []), ()))
        self.assertTrue(same(heard_from(0, ()), ()))
        self.assertTrue(same(heard_from(3, ()), ((0,), (1,), (2,))))

    def test_who_is_reached_from_whom(self):
        random = seeded(382)
        for _ in range(150):
            many = random.randrange(1, 8)
            meets = random_meets(random, many)
            expected = tuple(walks(many, meets, desk) for desk in range(many))
            self.assertTrue(same(heard_from(many, meets), expected))
            self.assertTrue(same(heard_from(meets=tuple(meets), many=many), expected))
        self.assertEqual(heard_from(3, ((0, 1), (1, 2))), ((0, 1), (0, 1, 2), (0, 1, 2)))
        self.assertEqual(heard_from(3, ((1, 2), (0, 1))), ((0, 1, 2), (0, 1, 2), (1, 2)))

    def test_each_desk_has_the_letters_of_those_from_which_it_is_reached(self):
        random = seeded(383)
        for _ in range(60):
            many = random.randrange(1, 7)
            tallies, meets = random_tallies(random, FORM, many), random_meets(random, many)
            for tally, heard in zip(after_meetings(tallies, meets), heard_from(many, meets)):
                self.assertTrue(same(tally, tally_of(FORM, [letter for desk in heard for letter in letters_of(tallies[desk])])))

    def test_all_have_one_tally_exactly_if_each_is_reached_from_each(self):
        """Each desk begins with a letter of its own, so what is not heard is lacking."""
        random = seeded(384)
        told = set()
        for _ in range(120):
            many = random.randrange(1, 5)
            meets = random_meets(random, many)
            found = after_meetings([tally_of(FORM, [(desk, 0, (0, 0))]) for desk in range(many)], meets)
            one_tally = all(same(tally, found[0]) for tally in found)
            told.add(one_tally)
            self.assertEqual(one_tally, all(heard == tuple(range(many)) for heard in heard_from(many, meets)))
        self.assertEqual(told, {True, False})

    def test_the_same_pair_twice_and_turned(self):
        tallies = random_tallies(seeded(385), FORM, 4)
        for meets in itertools.permutations([(0, 1), (1, 2), (2, 3)]):
            once = after_meetings(tallies, meets)
            self.assertTrue(same(after_meetings(tallies, [meet for one in meets for meet in (one, one)]), once))
            self.assertTrue(same(after_meetings(tallies, [meet[::-1] for meet in meets]), once))
            self.assertTrue(same(heard_from(4, [meet[::-1] for meet in meets]), heard_from(4, meets)))

    def test_the_greatest_numbers(self):
        random = seeded(386)
        tallies, meets = random_tallies(random, WIDE, 8), [tuple(random.sample(range(8), 2)) for _ in range(40)]
        self.assertEqual(len(after_meetings(tallies, meets)), 8)
        self.assertEqual(len(heard_from(8, meets)), 8)

    def test_pairs_that_are_none(self):
        tallies = random_tallies(seeded(387), FORM, 3)
        wrong = any_values() + [(0, 3), (3, 0), (-1, 0), (0, -1), (0, 0), (2, 2), (0, True), (False, 1), (0, 1, 2), (0,), [0, 1], ((0, 1),), (0, "1"), (0, None)]
        for value in wrong:
            if is_meet(3, value):
                self.assertEqual(len(heard_from(3, [value])), 3)
                continue
            for meets in ([value], (value,), [(0, 1), value], [value, (0, 1)], [value, None]):
                self.fails(InvalidSize, "meets", after_meetings, tallies, meets)
                self.fails(InvalidSize, "meets", heard_from, 3, meets)
        for many in (0, 1):
            self.fails(InvalidSize, "meets", heard_from, many, [(0, 1)])
            self.fails(InvalidSize, "meets", after_meetings, tallies[:many], [(0, 1)])

    def test_other_forms_are_told_first(self):
        other = tally_of(Form((("a", 2),)), ())
        tallies = random_tallies(seeded(388), FORM, 3)
        for some in ([other] + tallies, tallies + [other], tallies[:1] + [other] + tallies[1:]):
            for meets in ((), ((0, 1),), (None,), ((0, 0),), ((0, 9),)):
                self.fails(InvalidSize, "form", after_meetings, some, meets)
        equal = tally_of(Form(FORM.questions), ())
        self.assertEqual(len(after_meetings(tallies + [equal], ((0, 3),))), 4)


if __name__ == "__main__":
    unittest.main()
