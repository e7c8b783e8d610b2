"""Point [33]: what counts in a tally."""

import unittest
from fractions import Fraction

from checks import Case
from helpers import FORM, WIDE, every_sheet, frac, pair_of, same, seeded, sheets_with
from test_tallies import EMPTY, LATE, TALLY, some_letters
from whyblank.counting import counted, doubts, gone, next_letter, sheets_counted
from whyblank.errors import Refused
from whyblank.sheets import is_sheets
from whyblank.tallies import Tally, heard, is_tally, merged, need_letter, tally_of


class Numbers(Case):
    def test_doubts_gone_and_counted(self):
        random = seeded(240)
        for _ in range(120):
            tally = tally_of(random.choice([FORM, WIDE]), some_letters(random, FORM, random.randrange(0, 14)))
            kinds = {"doubt": [], "gone": [], "count": []}
            for number, _, words in tally.rows:
                if len(words) > 1:
                    kinds["doubt"].append(number)
                elif words[0] == ():
                    kinds["gone"].append(number)
                else:
                    kinds["count"].append((number, words[0]))
            self.assertTrue(same(doubts(tally), tuple(kinds["doubt"])))
            self.assertTrue(same(gone(tally), tuple(kinds["gone"])))
            self.assertTrue(same(counted(tally), tuple(kinds["count"])))
        self.assertEqual((doubts(tally=TALLY), gone(tally=TALLY), counted(tally=TALLY)), ((3,), (5,), ((4, (1, 1)), (7, (-1, 1)))))
        self.assertEqual((doubts(EMPTY), gone(EMPTY), counted(EMPTY)), ((), (), ()))

    def test_two_words_of_which_one_takes_back(self):
        tally = Tally(FORM, ((1, 0, ((), (0, 0))), (2, 4, ((-1, -1),)), (3, 1, ((),))))
        self.assertEqual((doubts(tally), gone(tally), counted(tally)), ((1,), (3,), ((2, (-1, -1)),)))

    def test_next_letter(self):
        random = seeded(241)
        for _ in range(60):
            tally = tally_of(FORM, some_letters(random, FORM, 8))
            editions = {number: edition for number, edition, _ in tally.rows}
            for number in (0, 1, 2, 3, 9, LATE):
                word = random.choice(every_sheet(FORM) + [()])
                letter = next_letter(tally, number, word)
                self.assertTrue(same(letter, (number, editions[number] + 1 if number in editions else 0, word)))
                self.assertIsNone(need_letter(FORM, letter))
                behind = heard(tally, letter)
                self.assertIs(is_tally(behind), True)
                self.assertIn((number, letter[1], (word,)), behind.rows)
                self.assertEqual([row for row in behind.rows if row[0] != number], [row for row in tally.rows if row[0] != number])
        self.assertEqual(next_letter(word=(0, 0), number=3, tally=TALLY), (3, 1, (0, 0)))
        self.assertEqual(next_letter(EMPTY, 0, ()), (0, 0, ()))


class Tables(Case):
    def plain_table(self, tally):
        parts = {}
        for _, sheet in counted(tally):
            parts[sheet] = parts.get(sheet, 0) + 1
        return sheets_with(tally.form, parts)

    def test_tables(self):
        random = seeded(242)
        none = 0
        for _ in range(120):
            tally = tally_of(FORM, some_letters(random, FORM, random.randrange(0, 14), 9))
            if not counted(tally):
                none += 1
                self.fails(Refused, "none", sheets_counted, tally)
            else:
                self.assertTrue(same(sheets_counted(tally), self.plain_table(tally)))
                self.assertIs(is_sheets(sheets_counted(tally)), True)
        self.assertGreater(none, 5)
        self.assertEqual(sheets_counted(tally=TALLY).shares, (((-1, 1), (1, 2)), ((1, 1), (1, 2))))

    def test_none(self):
        for tally in (EMPTY, Tally(FORM, ((1, 0, ((),)),)), Tally(FORM, ((1, 0, ((), (0, 0))), (2, 0, ((0, 0), (0, 1)))))):
            self.fails(Refused, "none", sheets_counted, tally)

    def test_tables_of_merged_tallies(self):
        """With no number in both, shares are put together in the measure of how many count in each."""
        random = seeded(243)
        tried = 0
        while tried < 40:
            letters = some_letters(random, FORM, 16, 12)
            numbers = sorted({letter[0] for letter in letters})
            chosen = random.sample(numbers, len(numbers) // 2)
            one = tally_of(FORM, [letter for letter in letters if letter[0] in chosen])
            other = tally_of(FORM, [letter for letter in letters if letter[0] not in chosen])
            many = (len(counted(one)), len(counted(other)))
            if 0 in many:
                continue
            tried += 1
            parts = {}
            for tally, weight in zip((one, other), many):
                for sheet, share in sheets_counted(tally).shares:
                    parts[sheet] = parts.get(sheet, Fraction(0)) + frac(share) * weight / sum(many)
            found = sheets_counted(merged(one, other))
            self.assertTrue(same(found.shares, tuple(sorted((sheet, pair_of(share)) for sheet, share in parts.items()))))


if __name__ == "__main__":
    unittest.main()
