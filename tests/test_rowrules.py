"""Points [54] to [57], and the first sentences of [58]: answers that cannot go together."""

import itertools
import unittest
from fractions import Fraction

from checks import Case
from helpers import (
    FORM, HUGE, WIDE, any_values, as_dict, book_with, closed_family, deep, every_truth, frac, free_book, mutants, names, plain_own_blanks,
    plain_sheets, same, seeded, some_truths, subsets,
)
from test_lotrules import THREE, random_family
from test_weights import DEBTS, EARNS, PAIR
from whyblank.books import lots_in, need_book, part, truth_shares
from whyblank.errors import InvalidSize, Refused
from whyblank.forms import Form
from whyblank.lotrules import gaps, lot_part
from whyblank.onebook import grown_book, is_grown, one_book
from whyblank.rowrules import bridges, fibre, need_rows, pieces, row_book, row_way, split, two_row_books, whole_lots
from whyblank.sheets import sheets_of
from whyblank.weights import weights

BOTH = ((), DEBTS, PAIR, EARNS)
ALIKE = ((0, 0), (1, 1))
FORMS = [FORM, WIDE, THREE, Form((("a", 3), ("b", 3))), Form((("a", 3),)), Form((("a", 2), ("b", 2), ("c", 3)))]


def few_rows(random, form):
    """Rows with gaps between them, so that there are splits."""
    every = every_truth(form)
    return tuple(sorted(random.sample(every, random.randrange(1, min(len(every), 8) + 1))))


def next_rows(form, rows, lot, one):
    for other in rows:
        unlike = [name for name, first, second in zip(names(form), one, other) if first != second]
        if len(unlike) == 1 and unlike[0] in lot:
            yield other


def plain_ways(form, rows, lot, one, other):
    """All row ways that meet no row twice, by trying all of them."""
    found, begun = [], [(one,)] if one in rows else []
    while begun:
        way = begun.pop()
        if way[-1] == other:
            found.append(way)
        begun += [way + (row,) for row in next_rows(form, rows, lot, way[-1]) if row not in way]
    return found


def reach(form, rows, lot, one):
    found, fresh = {one}, [one]
    while fresh:
        for row in next_rows(form, rows, lot, fresh.pop()):
            if row not in found:
                found.add(row)
                fresh.append(row)
    return found


def agree(form, lot, one, other):
    return all(name in lot or first == second for name, first, second in zip(names(form), one, other))


def plain_split(form, rows, lot):
    for one, other in itertools.product(rows, rows):
        if one < other and agree(form, lot, one, other) and other not in reach(form, rows, lot, one):
            return (one, other)
    return None


class Rows(Case):
    def judged(self, form, value):
        every = every_truth(form)
        if type(value) is not tuple or not value or not all(any(same(one, truth) for truth in every) for one in value):
            return False
        return list(value) == sorted(set(value))

    def test_any_values(self):
        for form in (FORM, THREE, Form((("debts", 2),))):
            values = any_values() + list(mutants(((0, 0), (0, 1), (1, 1)))) + list(mutants(((0,), (1,)))) + list(mutants(((0, 1, 1),)))
            values += [((0, 0), (0, 0)), ((1, 1), (0, 0)), ((0, True),), ((0, -1),), ((0, 2),), ([0, 0],), deep(((0, 0),)), ((0, 0), HUGE)]
            for value in values:
                if self.judged(form, value):
                    self.assertIsNone(need_rows(form, value))
                else:
                    self.fails(InvalidSize, "rows", need_rows, form, value)
        self.assertIsNone(need_rows(value=((0, 0),), form=FORM))

    def test_row_ways_by_trying_all(self):
        random = seeded(130)
        for _ in range(120):
            form = random.choice(FORMS)
            rows, lot = few_rows(random, form), random.choice(subsets(names(form)))
            for _ in range(6):
                one, other = random.choice(every_truth(form)), random.choice(every_truth(form))
                ways = plain_ways(form, rows, lot, one, other)
                shortest = [way for way in ways if len(way) == min(map(len, ways))]
                expected = min(shortest) if ways else None
                self.assertTrue(same(row_way(form, rows, lot, one, other), expected))
        self.assertEqual(row_way(other=(1, 1), one=(0, 0), lot=PAIR, rows=((0, 0), (0, 1), (1, 0), (1, 1)), form=FORM), ((0, 0), (0, 1), (1, 1)))

    def test_row_ways_at_the_edges(self):
        self.assertEqual(row_way(FORM, ALIKE, PAIR, (0, 0), (0, 0)), ((0, 0),))
        self.assertEqual(row_way(FORM, ALIKE, (), (0, 0), (0, 0)), ((0, 0),))
        self.assertIsNone(row_way(FORM, ALIKE, PAIR, (0, 1), (0, 1)))
        self.assertIsNone(row_way(FORM, ALIKE, PAIR, (0, 0), (0, 1)))
        self.assertIsNone(row_way(FORM, ALIKE, PAIR, (0, 1), (0, 0)))
        self.assertIsNone(row_way(FORM, ALIKE, PAIR, (0, 0), (1, 1)))
        self.assertIsNone(row_way(FORM, ((0, 0), (0, 1)), DEBTS, (0, 0), (0, 1)))

    def test_row_ways_among_many_rows(self):
        form = Form((("a", 3), ("b", 3), ("c", 3)))
        rows = tuple(every_truth(form))
        self.assertEqual(row_way(form, rows, ("a", "b", "c"), (2, 2, 2), (0, 0, 0)), ((2, 2, 2), (0, 2, 2), (0, 0, 2), (0, 0, 0)))
        snake = ((0, 0, 0), (0, 0, 1), (0, 0, 2), (0, 1, 2), (0, 2, 2), (1, 2, 2), (2, 2, 2), (2, 2, 1), (2, 2, 0))
        expected = ((0, 0, 0), (0, 0, 2), (0, 2, 2), (2, 2, 2), (2, 2, 0))
        self.assertEqual(row_way(form, tuple(sorted(snake)), ("a", "b", "c"), snake[0], snake[-1]), expected)

    def test_pieces(self):
        random = seeded(131)
        for _ in range(120):
            form = random.choice(FORMS)
            rows = few_rows(random, form)
            for lot in subsets(names(form)):
                expected = sorted({tuple(sorted(reach(form, rows, lot, row))) for row in rows})
                self.assertTrue(same(pieces(form, rows, lot), tuple(expected)))
                self.assertEqual(sorted(row for piece in pieces(form, rows, lot) for row in piece), list(rows))
        self.assertEqual(pieces(lot=PAIR, rows=ALIKE, form=FORM), (((0, 0),), ((1, 1),)))

    def test_fibre(self):
        random = seeded(132)
        for _ in range(80):
            form = random.choice(FORMS)
            rows, truth = few_rows(random, form), random.choice(every_truth(form))
            for lot in subsets(names(form)):
                self.assertTrue(same(fibre(form, rows, lot, truth), tuple(row for row in rows if agree(form, lot, row, truth))))
        self.assertEqual(fibre(truth=(0, 1), lot=DEBTS, rows=ALIKE, form=FORM), ((1, 1),))
        self.assertEqual(fibre(FORM, ALIKE, (), (0, 1)), ())

    def test_split(self):
        random = seeded(133)
        found = 0
        for _ in range(150):
            form = random.choice(FORMS)
            rows = few_rows(random, form)
            for lot in subsets(names(form)):
                expected = plain_split(form, rows, lot)
                found += expected is not None
                self.assertTrue(same(split(form, rows, lot), expected))
                if len(lot) < 2:
                    self.assertIsNone(split(form, rows, lot))
                self.assertIsNone(split(form, tuple(every_truth(form)), lot))
        self.assertGreater(found, 50)
        self.assertEqual(split(lot=PAIR, rows=ALIKE, form=FORM), ALIKE)
        self.assertEqual(split(Form((("a", 3), ("b", 3))), ((0, 1), (0, 2), (1, 0), (2, 0)), ("a", "b")), ((0, 1), (1, 0)))

    def test_bridges(self):
        random = seeded(134)
        told = 0
        for _ in range(60):
            form = random.choice(FORMS[:4])
            rows, lots = few_rows(random, form), random_family(random, form)
            expected = []
            for truth in every_truth(form):
                more = sorted(rows + (truth,))
                if truth not in rows and all(plain_split(form, more, lot) is None for lot in lots):
                    expected.append(truth)
            told += len(expected)
            self.assertTrue(same(bridges(form, rows, lots), tuple(expected)))
        self.assertGreater(told, 20)
        self.assertEqual(bridges(lots=BOTH, rows=ALIKE, form=FORM), ((0, 1), (1, 0)))
        self.assertEqual(bridges(FORM, ALIKE, (DEBTS,)), ((0, 1), (1, 0)))
        self.assertEqual(bridges(FORM, tuple(every_truth(FORM)), BOTH), ())

    def test_whole_lots(self):
        random = seeded(135)
        for _ in range(100):
            form = random.choice(FORMS)
            rows, lots = few_rows(random, form), closed_family(random, form)
            having = [lot for lot in lots if plain_split(form, rows, lot) is not None]
            expected = tuple(lot for lot in lots if not any(set(lesser) <= set(lot) for lesser in having))
            self.assertTrue(same(whole_lots(form, rows, lots), expected))
            self.assertIn((), expected)
            self.assertEqual(gaps(expected), ())
            others = random_family(random, form)
            if gaps(others):
                self.fails(Refused, "lots", whole_lots, form, rows, others)
        self.assertEqual(whole_lots(lots=BOTH, rows=ALIKE, form=FORM), ((), DEBTS, EARNS))
        self.fails(Refused, "lots", whole_lots, FORM, ALIKE, (DEBTS,))


def cases(number, many):
    random = seeded(number)
    for _ in range(many):
        form = random.choice(FORMS)
        yield random, form, few_rows(random, form), closed_family(random, form)


class Books(Case):
    def plain_book(self, form, rows, lots, lot, side):
        first = plain_split(form, rows, lot)[0]
        every = [row for row in rows if agree(form, lot, row, first)]
        together = reach(form, rows, lot, first)
        parts = {}
        for some in lots:
            for row in rows:
                parts[(some, row)] = Fraction(1)
                if set(lot) <= set(some) and row in every:
                    many, inside = len(every), len(together)
                    parts[(some, row)] += Fraction(side * (many - inside if row in together else -inside), many)
        return book_with(form, parts)

    def test_word_by_word(self):
        tried = 0
        for _, form, rows, lots in cases(136, 150):
            for lot in lots:
                if plain_split(form, rows, lot) is None:
                    self.fails(Refused, "told", row_book, form, rows, lots, lot, 1)
                    continue
                tried += 1
                for side in (1, -1):
                    book = row_book(form, rows, lots, lot, side)
                    self.assertIsNone(need_book(book))
                    self.assertTrue(same(book, self.plain_book(form, rows, lots, lot, side)))
        self.assertGreater(tried, 30)
        self.assertEqual(row_book(side=1, lot=PAIR, lots=BOTH, rows=ALIKE, form=FORM), self.plain_book(FORM, ALIKE, BOTH, PAIR, 1))

    def test_errors(self):
        for lot, side in itertools.product(any_values()[::5] + [PAIR, EARNS], (1, 0, None)):
            self.fails(Refused, "lots", row_book, FORM, ALIKE, (DEBTS, PAIR), lot, side)
            self.fails(Refused, "lots", two_row_books, FORM, ALIKE, ((), PAIR), lot)
        for lot in any_values() + list(mutants(PAIR)) + [("other",)]:
            if not any(same(lot, some) for some in BOTH):
                for side in (1, 0, "1"):
                    self.fails(Refused, "lot", row_book, FORM, ALIKE, BOTH, lot, side)
                self.fails(Refused, "lot", two_row_books, FORM, ALIKE, BOTH, lot)
        for lot in ((), DEBTS, EARNS):
            for side in (1, 0, None):
                self.fails(Refused, "told", row_book, FORM, ALIKE, BOTH, lot, side)
            self.fails(Refused, "told", two_row_books, FORM, ALIKE, BOTH, lot)
        for side in any_values() + [2, -2, True, (1,), "1"]:
            if not same(side, 1) and not same(side, -1):
                self.fails(InvalidSize, "side", row_book, FORM, ALIKE, BOTH, PAIR, side)
        self.fails(Refused, "lot", two_row_books, FORM, ALIKE, ((), DEBTS), PAIR)

    def first_split_lot(self, form, rows, lot):
        having = [lesser for lesser in subsets(lot) if plain_split(form, rows, lesser) is not None]
        return min(having, key=lambda lesser: (len(lesser), lesser)) if having else None

    def test_both_books(self):
        for _, form, rows, lots in cases(137, 120):
            whole = whole_lots(form, rows, lots)
            for lot in lots:
                chosen = self.first_split_lot(form, rows, lot)
                self.assertIs(chosen is None, lot in whole)
                if chosen is None:
                    self.fails(Refused, "told", two_row_books, form, rows, lots, lot)
                    continue
                one, other = two_row_books(form, rows, lots, lot)
                self.assertTrue(same(one, row_book(form, rows, lots, chosen, 1)))
                self.assertTrue(same(other, row_book(form, rows, lots, chosen, -1)))
                for book in (one, other):
                    self.assertEqual(plain_own_blanks(book), ())
                    self.assertIs(is_grown(book), True)
                    self.assertEqual(set(as_dict(book)), {(some, row) for some in lots for row in rows})
                self.assertTrue(same(plain_sheets(one), plain_sheets(other)))
                for some in lots:
                    self.assertIs(part(one, some) != part(other, some), set(chosen) <= set(some))
                self.assertNotEqual(truth_shares(one), truth_shares(other))
        self.assertEqual(two_row_books(lot=PAIR, lots=BOTH, rows=ALIKE, form=FORM), two_row_books(FORM, ALIKE, BOTH, PAIR))

    def test_a_lot_without_a_split_that_has_one_within(self):
        form = THREE
        rows = ((0, 0, 0), (0, 0, 1), (0, 1, 1), (1, 1, 0), (1, 1, 1))
        family = tuple(subsets(names(form)))
        having = [lot for lot in family if plain_split(form, rows, lot) is not None]
        inside = [lot for lot in family if lot not in having and any(set(some) <= set(lot) for some in having)]
        self.assertIn(("a", "b", "c"), inside)
        for lot in inside:
            self.fails(Refused, "told", row_book, form, rows, family, lot, 1)
            one, other = two_row_books(form, rows, family, lot)
            self.assertNotEqual(part(one, lot), part(other, lot))
            self.assertNotIn(lot, whole_lots(form, rows, family))

    def test_parts_of_free_and_grown_books(self):
        for random, form, rows, lots in cases(138, 80):
            whole = whole_lots(form, rows, lots)
            books = [free_book(random, form, lots, rows)]
            for lot in lots:
                if lot not in whole:
                    books += list(two_row_books(form, rows, lots, lot))
            for book in books:
                self.assertEqual(lots_in(book), lots)
                for lot in whole:
                    self.assertTrue(same(lot_part(sheets_of(book), lot), part(book, lot)))
                if whole == lots:
                    self.assertEqual(one_book(sheets_of(book)), book)

    def test_books_of_their_own_full_shares_and_weights(self):
        """The last sentence of [41]: they are so exactly if there is no split."""
        for random, form, rows, lots in cases(139, 60):
            whole = whole_lots(form, rows, lots)
            books = [free_book(random, form, lots, rows)] if whole == lots else []
            for lot in lots:
                if lot not in whole:
                    books += list(two_row_books(form, rows, lots, lot))
            for book in books:
                came = sheets_of(book)
                fulls = tuple((sheet, share) for sheet, share in came.shares if -1 not in sheet)
                self.assertIs(grown_book(form, fulls, weights(came)) == book, whole == lots)

    def test_rows_of_all_truths(self):
        random = seeded(140)
        for form in FORMS:
            rows, lots = tuple(every_truth(form)), closed_family(random, form)
            self.assertEqual(whole_lots(form, rows, lots), lots)
            book = free_book(random, form, lots, rows)
            self.assertEqual(one_book(sheets_of(book)), book)
        for _ in range(10):
            form = random.choice(FORMS)
            rows = some_truths(random, form)
            self.assertEqual(sum(frac(share) for _, _, share in free_book(random, form, ((),), rows).shares), 1)


if __name__ == "__main__":
    unittest.main()
