"""Point [11]: the texts of forms, books and tables of sheets."""

import itertools
import re
import unittest
from fractions import Fraction

from checks import Case
from helpers import FORM, WIDE, any_values, blanked, every_sheet, every_truth, frac, names, random_book, random_form, random_sheets, same, seeded, subsets
from test_fractions import is_text
from whyblank.books import Book
from whyblank.errors import InvalidText
from whyblank.forms import Form
from whyblank.onebook import one_book
from whyblank.sheets import Sheets, sheets_of
from whyblank.texts import book_text, form_text, read_book, read_form, read_sheets, sheets_text

EIGHT = Form(tuple((letter * 8, 9) for letter in "abcdefgh"))
TOWN = Book(FORM, (((), (0, 0), (3, 8)), ((), (0, 1), (1, 8)), (("debts",), (0, 1), (1, 8)), (("debts", "earns"), (1, 1), (3, 8))))
TOWN_TEXT = "form debts 2 earns 2\n- 00 3/8\n- 01 1/8\ndebts 01 1/8\ndebts,earns 11 3/8"


def plain_form(text):
    """The form with this text, None if there is none, told apart from the package."""
    if not re.fullmatch("[a-z]{1,8} [2-9]( [a-z]{1,8} [2-9]){0,7}", text):
        return None
    words = text.split()
    found = list(zip(words[::2], map(int, words[1::2])))
    ascending = all(one[0] < other[0] for one, other in zip(found, found[1:]))
    return Form(tuple(found)) if ascending else None


def plain_share(word):
    if not is_text(word):
        return None
    share = Fraction(word)
    return (share.numerator, share.denominator) if share > 0 else None


def plain_row(form, line, is_book):
    """The row of a book or a table of sheets with this line, None if there is none."""
    words = line.split(" ")
    if len(words) != (3 if is_book else 2) or plain_share(words[-1]) is None:
        return None
    places = [range(many) if is_book else range(-1, many) for _, many in form.questions]
    signs = words[-2]
    if len(signs) != len(places) or not all(sign in [".012345678"[number + 1] for number in place] for sign, place in zip(signs, places)):
        return None
    told = tuple(".012345678".index(sign) - 1 for sign in signs)
    if not is_book:
        return (told, plain_share(words[1]))
    lots = {",".join(lot) or "-": lot for lot in subsets(names(form))}
    return (lots[words[0]], told, plain_share(words[2])) if words[0] in lots else None


def plain_read(text, is_book):
    """What has this text, or the number of the first wrong line."""
    lines = text.split("\n")
    form = plain_form(lines[0][5:]) if lines[0][:5] == "form " else None
    if form is None:
        return 0
    rows = []
    for at, line in enumerate(lines[1:]):
        row = plain_row(form, line, is_book)
        if row is None or (rows and not rows[-1][:-1] < row[:-1]):
            return at + 1
        rows.append(row)
    if sum(frac(row[-1]) for row in rows) != 1:
        return len(lines)
    return Book(form, tuple(rows)) if is_book else Sheets(form, tuple(rows))


class Texts(Case):
    def agrees(self, value, is_book):
        """What is read, or the number in the error, is as read apart from the package."""
        read, text = (read_book, book_text) if is_book else (read_sheets, sheets_text)
        expected = plain_read(value, is_book)
        if isinstance(expected, int):
            self.fails(InvalidText, expected, read, value)
        else:
            self.assertTrue(same(read(value), expected))
            self.assertEqual(text(expected), value)
        return expected

    def test_forms(self):
        random = seeded(370)
        for form in [FORM, WIDE, EIGHT] + [random_form(random, 6, 9) for _ in range(30)]:
            text = " ".join("%s %d" % question for question in form.questions)
            self.assertTrue(same(form_text(form), text))
            self.assertTrue(same(read_form(text), form))
        self.assertEqual(form_text(form=FORM), "debts 2 earns 2")
        self.assertEqual(read_form(value="debts 2 earns 2"), FORM)

    def test_texts_of_no_form(self):
        random = seeded(371)
        texts = ["", " ", "debts", "debts ", "debts 2 ", " debts 2", "debts  2", "debts 1", "debts 10", "debts 02", "Debts 2", "debts 2\n", "debts 2 debts 2",
                 "earns 2 debts 2", "2 debts", "debts two", "debts 2, earns 2", "abcdefghi 2", "debts \u00b2", "form debts 2", "debts -2", "debts 2 earns",
                 " ".join("%s 9" % letter for letter in "abcdefghi"), "debts 2\nearns 2"]
        for _ in range(400):
            text = form_text(random.choice([FORM, WIDE]))
            at = random.randrange(len(text) + 1)
            texts.append(random.choice([text[:at] + text[at + 1:], text[:at] + random.choice(" 2aZ\n9-") + text[at:], text[:at] + text[at:at + 1] + text[at:]]))
        for text in texts:
            if plain_form(text) is None:
                self.fails(InvalidText, 0, read_form, text)
            else:
                self.assertTrue(same(read_form(text), plain_form(text)))

    def test_books_and_tables(self):
        self.assertEqual(book_text(TOWN), TOWN_TEXT)
        self.assertEqual(read_book(TOWN_TEXT), TOWN)
        self.assertEqual(sheets_text(sheets_of(TOWN)), "form debts 2 earns 2\n.. 3/8\n.1 1/8\n00 3/8\n01 1/8")
        self.assertEqual(book_text(book=TOWN), TOWN_TEXT)
        self.assertEqual(read_book(value=TOWN_TEXT), TOWN)
        self.assertEqual(read_sheets(value=sheets_text(sheets=sheets_of(TOWN))), sheets_of(TOWN))
        self.assertEqual(book_text(Book(Form((("a", 3),)), (((), (2,), (1, 1)),))), "form a 3\n- 2 1")
        self.assertEqual(read_sheets("form a 3\n. 1"), Sheets(Form((("a", 3),)), (((-1,), (1, 1)),)))

    def test_there_and_back(self):
        random = seeded(372)
        for _ in range(60):
            form = random_form(random, 4, 3)
            many = random.choice([1, 3, 9])
            book, sheets = random_book(random, form, many), random_sheets(random, form, many)
            self.assertEqual(self.agrees(book_text(book), True), book)
            self.assertEqual(self.agrees(sheets_text(sheets), False), sheets)
            rows = [",".join(lot) + " " * bool(lot) + "- " * (not lot) + "".join(map(str, truth)) + " " + str(frac(share)) for lot, truth, share in book.shares]
            self.assertEqual(book_text(book), "\n".join(["form " + form_text(form)] + rows))
            lines = ["".join("." if answer < 0 else str(answer) for answer in sheet) + " " + str(frac(share)) for sheet, share in sheets.shares]
            self.assertEqual(sheets_text(sheets), "\n".join(["form " + form_text(form)] + lines))
        for form in (FORM, WIDE):
            book = random_book(random, form)
            self.assertEqual(read_book(book_text(book)), book)

    def test_eight_questions_of_nine_answers(self):
        truths = [(8,) * 8, (0,) * 8, tuple(range(8)), (7, 8, 0, 1, 2, 3, 4, 5)]
        lots = [(), names(EIGHT), names(EIGHT)[3:], names(EIGHT)[:1]]
        rows = sorted((tuple(lot), truth, (1, 4)) for lot, truth in zip(lots, truths))
        book = Book(EIGHT, tuple(rows))
        self.assertEqual(self.agrees(book_text(book), True), book)
        sheets = Sheets(EIGHT, tuple(sorted((blanked(EIGHT, lot, truth), share) for lot, truth, share in rows)))
        self.assertEqual(self.agrees(sheets_text(sheets), False), sheets)

    def test_signs_put_in_left_out_doubled_and_turned(self):
        random = seeded(373)
        told = set()
        for is_book, text in ((True, TOWN_TEXT), (False, "form debts 2 earns 3\n.. 3/8\n.1 1/8\n02 3/8\n11 1/8"), (True, "form a 3\n- 2 1"), (False, "form a 3\n2 1")):
            for at in range(len(text) + 1):
                for sign in " -.,/0129\nA" + random.choice(["\u00b2", "\u0661", "\t", "\r", "z", "+"]):
                    told.add(type(self.agrees(text[:at] + sign + text[at:], is_book)))
                    told.add(type(self.agrees(text[:at] + sign + text[at + 1:], is_book)))
                told.add(type(self.agrees(text[:at] + text[at + 1:], is_book)))
                told.add(type(self.agrees(text[:at] + text[at:at + 1] + text[at:], is_book)))
                self.agrees(text[:at], is_book)
                self.agrees(text[at:], is_book)
                self.agrees(text, not is_book)
        self.assertEqual(told, {int, Book, Sheets})

    def test_lines_put_in_left_out_doubled_and_exchanged(self):
        random = seeded(374)
        told = set()
        for _ in range(40):
            form = random_form(random, 2, 3)
            for is_book, text in ((True, book_text(random_book(random, form, 5))), (False, sheets_text(random_sheets(random, form, 5)))):
                lines = text.split("\n")
                for at in range(len(lines) + 1):
                    for line in ("", " ", "- 00 1/8", "00 1/8", "form debts 2", random.choice(lines), random.choice(lines) + " "):
                        told.add(type(self.agrees("\n".join(lines[:at] + [line] + lines[at:]), is_book)))
                        told.add(type(self.agrees("\n".join(lines[:at] + [line] + lines[at + 1:]), is_book)))
                    self.agrees("\n".join(lines[:at] + lines[at + 1:]), is_book)
                    self.agrees("\n".join(lines[:at] + lines[at:at + 1] * 2 + lines[at + 1:]), is_book)
                for one, other in itertools.combinations(range(len(lines)), 2):
                    turned = list(lines)
                    turned[one], turned[other] = lines[other], lines[one]
                    self.agrees("\n".join(turned), is_book)
        self.assertIn(int, told)

    def test_number_of_the_first_wrong_line(self):
        for text, at in (
            ("", 0), ("form", 0), ("form ", 0), ("debts 2\n- 0 1", 0), ("form debts 1\n- 0 1", 0), ("Form debts 2\n- 0 1", 0), ("form  debts 2\n- 0 1", 0),
            ("form debts 2 \n- 0 1", 0), ("form debts 2", 1), ("form debts 2\n", 1), ("form debts 2\n\n- 0 1", 1), ("form debts 2\n- 0 1\n", 2),
            ("form debts 2\n- 0 1/2", 2), ("form debts 2\n- 0 3/2", 2), ("form debts 2\n- 0 1/2\n- 1 1/3", 3), ("form debts 2\n- 0 1/2\n- 1 2/3", 3),
            ("form debts 2\n- 0 2/4\n- 1 1/2", 1), ("form debts 2\n- 0 0\n- 1 1", 1), ("form debts 2\n- 0 -1\n- 1 2", 1), ("form debts 2\n- 2 1", 1),
            ("form debts 2\n- 1 1/2\n- 0 1/2", 2), ("form debts 2\n- 0 1/2\n- 0 1/2", 2), ("form debts 2\ndebts 0 1/2\n- 1 1/2", 2),
            ("form debts 2\n- . 1", 1), ("form debts 2\ndrink 0 1", 1), ("form debts 2\ndebts,debts 0 1", 1), ("form debts 2\n 0 1", 1),
            ("form debts 2\n0 1", 1), ("form debts 2\n- 0 1 1", 1), ("form debts 2\n- 00 1", 1), ("form debts 2\n-  1", 1),
            ("form debts 2 earns 2\nearns,debts 00 1", 1), ("form debts 2 earns 2\ndebts, 00 1", 1), ("form debts 2 earns 2\n-,debts 00 1", 1),
            ("form debts 2\nx\n- 0 1/2", 1), ("form debts 2\n- 0 1/2\nx", 2),
        ):
            self.assertEqual(self.agrees(text, True), at, text)
        for text, at in (
            ("", 0), ("form debts 2", 1), ("form debts 2\n- 1", 1), ("form debts 2\n. 1\n", 2), ("form debts 2\n0 1/2\n. 1/2", 2), ("form debts 2\n0 1/2", 2),
            ("form debts 2\n0 3/2", 2), ("form debts 2\n-1 1", 1), ("form debts 2\n2 1", 1), ("form debts 2\n. 1/2\n. 1/2", 2), ("form debts 2\n.. 1", 1),
            ("form debts 2\n. 1/2\n0 1/2\n1 0", 3), ("form debts 2\n- 0 1", 1), ("form debts 2\n0 01", 1), ("form debts 2\n0 1/01", 1),
        ):
            self.assertEqual(self.agrees(text, False), at, text)

    def test_what_is_no_string(self):
        for value in any_values():
            for read in (read_form, read_book, read_sheets):
                if not isinstance(value, str):
                    self.fails(InvalidText, -1, read, value)
                elif read is read_form:
                    if plain_form(value) is None:
                        self.fails(InvalidText, 0, read, value)
                else:
                    self.agrees(value, read is read_book)
        for value in (["form debts 2"], ("debts 2",), b"debts 2", FORM, TOWN):
            for read in (read_form, read_book, read_sheets):
                self.fails(InvalidText, -1, read, value)

    def test_long_fractions(self):
        """Shares of thousands of figures, as books have that are told by sheets."""
        random = seeded(375)
        form = Form((("a", 3), ("b", 3), ("c", 2)))
        parts = [random.randrange(1, 10 ** 50) for _ in every_sheet(form)]
        total = sum(parts)
        shares = [Fraction(part, total) for part in parts]
        sheets = Sheets(form, tuple((sheet, (one.numerator, one.denominator)) for sheet, one in zip(every_sheet(form), shares)))
        self.assertEqual(read_sheets(sheets_text(sheets)), sheets)
        book = one_book(sheets)
        self.assertGreater(max(len(str(share[1])) for _, _, share in book.shares), 1000)
        self.assertEqual(read_book(book_text(book)), book)
        self.assertEqual(len(every_truth(form)) * 8, len(book.shares))


if __name__ == "__main__":
    unittest.main()
