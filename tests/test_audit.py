"""Point [86], of audits."""

import unittest

from checks import Case
from helpers import FORM, any_values, deep, random_sheets, same, seeded
from test_charts import A, C, EMPTY
from test_desk import FILLED, QUESTIONS, PlainDesk, filled, random_lines
from test_facts import plain_closure
from test_judging import is_every
from test_slips import is_slip, slips_of
from test_study import SOLE
from whyblank.audit import audit
from whyblank.calls import call_paper
from whyblank.charts import Chart
from whyblank.closedlots import closed_lot
from whyblank.desk import Desk
from whyblank.facts import facts_of
from whyblank.forms import Form
from whyblank.judging import judged
from whyblank.onebook import one_book
from whyblank.sheets import gathered_sheets
from whyblank.texts import book_text
from whyblank.towns import two_towns
from whyblank.ways import way_of
from whyblank.weights import weights

SOLE_TABLE = gathered_sheets(SOLE, [((-1,), (1, 2)), ((0,), (1, 4)), ((1,), (1, 4))])


def plain_told(facts, word, question):
    """The answers to a question under a word among facts and what follows from them."""
    return [fact[2] for fact in plain_closure(facts).values() if fact[0] == word and same(fact[1], question)]


def is_right(plain, row):
    """Whether any value is a right row for a plain desk that was told the lines ahead, told apart from the package."""
    if type(row) is not tuple or len(row) != 3 or type(row[0]) is not str or type(row[2]) is not tuple:
        return False
    line, outcome, slips = row
    expected = plain.say(line)
    if expected is None or not same(outcome, expected) or not all(map(is_slip, slips)):
        return False
    chart, table = plain.model.chart(), plain.model.table()
    facts = [fact for slip in slips for fact in facts_of(slip)]
    if line in ("told", "needed"):
        return plain_told(facts, line, chart) == [expected[1]]
    if line != "book" or table is None or not is_every(table):
        return True
    told = plain_told(facts, "told", chart)
    if told == [True]:
        return [book_text(book) for book in plain_told(facts, "book", table)] == [expected[1]]
    return told == [False] and expected == ("refused", "apart")


def first_wrong(form, record):
    """The number of the first wrong row, told apart from the package."""
    if type(record) is not tuple:
        return -1
    plain = PlainDesk(form)
    for at, row in enumerate(record):
        if not is_right(plain, row):
            return at
    return None


def record_of(form, lines):
    desk = Desk(form)
    for line in lines:
        desk.say(line)
    return desk.record()


def random_records(number, many, length=14):
    random = seeded(number)
    for _ in range(many):
        form = random.choice([SOLE, SOLE, FORM, Form((("a", 3),))])
        yield form, record_of(form, random_lines(random, form, length))


class Audits(Case):
    def agrees(self, form, record):
        expected = first_wrong(form, record)
        self.assertTrue(same(audit(form, record), expected), (expected, record))
        return expected

    def test_each_record_of_a_desk_is_right(self):
        for form, record in random_records(440, 40, 25):
            self.assertIsNone(self.agrees(form, record))
            for at in range(len(record)):
                self.assertIsNone(audit(form, record[:at]))
        self.assertIsNone(audit(record=(), form=FORM))

    def test_outcomes_turned_and_exchanged(self):
        random = seeded(441)
        for form, record in random_records(442, 25):
            for at, row in enumerate(record):
                outcome = random.choice([random.choice(record)[1], ("did", "done"), ("told", True), ("told", ()), ("refused", "none"), None, row[1] + ((),)])
                turned = record[:at] + ((row[0], outcome, row[2]),) + record[at + 1:]
                found = self.agrees(form, turned)
                self.assertEqual(found, None if same(outcome, row[1]) else at)

    def test_bools_are_no_integers(self):
        desk = Desk(SOLE)
        for line in ("told", "sheet 1 0", "depth", "tally", "draw debts ?debts", "told"):
            desk.say(line)
        record = desk.record()
        turned = {0: ("told", 1), 2: ("told", (True, 0)), 3: ("told", ((True, (0,)),)), 5: ("told", 0)}
        for at, outcome in turned.items():
            self.assertEqual(outcome, record[at][1])
            self.assertEqual(self.agrees(SOLE, record[:at] + ((record[at][0], outcome, record[at][2]),) + record[at + 1:]), at)
        for outcome in (("told", (1, False)), ("told", [1, 0]), ["told", (1, 0)], ("told", (1,)), ("told", (1, 0, 0)), ("told",), ("told", (1, 0), ())):
            self.assertEqual(self.agrees(SOLE, record[:2] + (("depth", outcome, ()),)), 2)

    def test_slips_turned_left_out_and_exchanged(self):
        random = seeded(443)
        wrong = set()
        for form, record in random_records(444, 25):
            for at, row in enumerate(record):
                other = random.choice(record)[2]
                for slips in ((), other, row[2] + other, row[2] * 2, row[2] + (None,), list(row[2]), row[2][::-1], None, row[2] + ((),), (row[2],)):
                    wrong.add(self.agrees(form, record[:at] + ((row[0], row[1], slips),) + record[at + 1:]) is None)
                for slip in row[2]:
                    for turned in ((slip[0], slip[1]), ("told",) + slip[1:], slip[:2] + ((),), slip[:2] + (None,), list(slip), slip[::-1]):
                        self.assertEqual(self.agrees(form, record[:at] + ((row[0], row[1], (turned,)),)), at)
        self.assertEqual(wrong, {True, False})

    def test_rows_left_out_twice_and_exchanged(self):
        random = seeded(445)
        told = set()
        for form, record in random_records(446, 25):
            for at in range(len(record)):
                other = random.randrange(len(record))
                told.add(self.agrees(form, record[:at] + record[at + 1:]))
                told.add(self.agrees(form, record[:at] + record[at:at + 1] + record[at:]))
                turned = list(record)
                turned[at], turned[other] = record[other], record[at]
                told.add(self.agrees(form, tuple(turned)))
            self.agrees(form, record[::-1])
        self.assertIn(None, told)
        self.assertGreater(len(told), 5)

    def test_rows_that_are_no_rows(self):
        record = record_of(SOLE, [FILLED, "told", "book"])
        for value in any_values() + [list(record[1]), record[1][:2], record[1] + ((),), (record[1],), deep(record[1]), ("told",), ("", ("told", True), ())]:
            for at in range(4):
                self.assertEqual(self.agrees(SOLE, record[:at] + (value,) + record[at:]), at)

    def test_the_first_wrong_row_is_told_whatever_stands_behind_it(self):
        record = record_of(SOLE, [FILLED, "told", "draw debts ?debts", "told", "needed", "book"])
        wrong = ("told", ("told", True), ())
        for at in range(len(record) + 1):
            for behind in ((), record[at:], (wrong,), (None, 7), (("no command", None, None),), tuple(any_values())):
                self.assertEqual(audit(SOLE, record[:at] + (wrong,) + behind), at)
                self.assertEqual(audit(SOLE, record[:at] + (None,) + behind), at)

    def test_lines_that_are_no_command(self):
        record = record_of(SOLE, ["told"])
        for line in ("", "told ", "Told", None, 7, ("told",), ["told"], "draw debts debts", b"told"):
            for row in ((line, ("told", True), record[0][2]), (line, ("did", "call"), ()), (line, None, ())):
                self.assertEqual(self.agrees(SOLE, record + (row,) + record), 1)

    def test_any_values_as_record(self):
        for value in any_values():
            self.assertEqual(self.agrees(SOLE, value), None if value == () else 0 if type(value) is tuple else -1)
        record = record_of(SOLE, [FILLED, "book"])
        for value in (list(record), [], iter(record), {}, None, "", record[0][0]):
            self.assertEqual(audit(SOLE, value), -1)
        for at, row in enumerate(record):
            for place in range(3):
                for value in any_values():
                    turned = row[:place] + (value,) + row[place + 1:]
                    self.agrees(SOLE, record[:at] + (turned,) + record[at + 1:])

    def test_any_slips_from_which_it_follows_will_do(self):
        chart, closed = Chart(SOLE, (), ()), Chart(SOLE, ((A, C),), ())
        own = (("closed", (chart, "debts"), closed_lot(chart, "debts")),)
        calls = (("calls", (chart, ()), call_paper(chart)),)
        whole = (("judged", (chart, SOLE_TABLE), judged(chart, SOLE_TABLE)),)
        parts = own + (("book", SOLE_TABLE, one_book(SOLE_TABLE)),)
        book = ("told", book_text(one_book(SOLE_TABLE)))
        for line, outcome in (("told", ("told", True)), ("needed", ("told", ()))):
            for slips in (own, calls, whole, parts, own + calls + whole):
                self.assertIsNone(self.agrees(SOLE, ((line, outcome, slips),)))
        first = ((FILLED, ("did", "done"), ()),)
        for slips in (whole, parts, parts[::-1], calls + parts[1:], whole * 3):
            self.assertIsNone(self.agrees(SOLE, first + (("book", book, slips),)))
        for slips in ((), own, calls, parts[1:], (("weights", SOLE_TABLE, weights(SOLE_TABLE)),), own + (("weights", SOLE_TABLE, weights(SOLE_TABLE)),)):
            self.assertEqual(self.agrees(SOLE, first + (("book", book, slips),)), 1)
        # Where an own way stands in the chart, a way or two towns tell that the sheets do not tell the book.
        first = record_of(SOLE, [FILLED, "draw debts ?debts"])
        way, towns = ("way", (closed, "debts"), way_of(closed, "debts")), ("towns", closed, two_towns(closed, "debts"))
        for slips in ((way,), (towns,), (way, towns), (("calls", (closed, ("debts",)), call_paper(closed)),)):
            self.assertIsNone(self.agrees(SOLE, first + (("told", ("told", False), slips), ("book", ("refused", "apart"), slips))))
        self.assertIsNone(self.agrees(SOLE, first + (("needed", ("told", ("debts",)), (way,)),)))
        self.assertEqual(self.agrees(SOLE, first + (("needed", ("told", ("debts",)), (towns,)),)), 2)
        self.assertEqual(self.agrees(SOLE, first + (("told", ("told", False), own + whole),)), 2)
        self.assertEqual(self.agrees(SOLE, first + (("book", ("refused", "apart"), ()),)), 2)

    def test_slips_of_other_charts_and_tables(self):
        random = seeded(447)
        table = random_sheets(random, SOLE)
        chart, other = Chart(SOLE, (), ()), Chart(SOLE, (), ((A, C),))
        record = record_of(SOLE, [FILLED, "told", "needed", "book"])
        for slips in (slips_of(other, SOLE_TABLE), slips_of(EMPTY, random_sheets(random, FORM))):
            for at in (1, 2, 3):
                self.assertEqual(self.agrees(SOLE, record[:at] + (record[at][:2] + (tuple(slips),),)), at)
        self.assertEqual(self.agrees(SOLE, record[:3] + (record[3][:2] + (tuple(slips_of(chart, table)),),)), 3)
        self.assertIsNone(self.agrees(SOLE, record[:1] + (record[1][:2] + (tuple(slips_of(chart, table)),),)))

    def test_slips_that_are_not_asked_for_must_hold_as_well(self):
        for line in ("chart", "depth", "calls", "tally", "sheets", "undo", "sheet 0 0"):
            row, = record_of(SOLE, [line])
            chart = Chart(SOLE, (), ())
            for slip in slips_of(chart, SOLE_TABLE):
                self.assertIsNone(self.agrees(SOLE, (row[:2] + ((slip,) * 2,),)))
                self.assertEqual(self.agrees(SOLE, (row[:2] + ((slip, (slip[0], slip[1], None)),),)), 0)

    def test_a_book_without_every_sheet_needs_no_slips(self):
        for lines in (["book"], ["sheet 0 0", "book"]):
            record = record_of(SOLE, lines)
            self.assertEqual(record[-1][1], ("refused", "none" if len(lines) == 1 else "nought"))
            self.assertIsNone(self.agrees(SOLE, record[:-1] + (record[-1][:2] + ((),),)))
            self.assertEqual(self.agrees(SOLE, record[:-1] + (("book", ("refused", "apart"), ()),)), len(lines) - 1)

    def test_another_form(self):
        for form, record in random_records(448, 20):
            for other in (SOLE, FORM, Form((("a", 3),)), Form((("debts", 3),))):
                self.agrees(other, record)

    def test_the_greatest_records(self):
        three = Form((("a", 3), ("b", 3), ("c", 3)))
        desk = Desk(three)
        desk.say(filled(three))
        for at in range(39):
            desk.say(("book", "told", "draw a ?b", "book", "draw b ?b", "needed", "undo")[at % 7])
        record = desk.record()
        self.assertEqual(len(record), 40)
        self.assertIsNone(audit(three, record))
        self.assertIsNone(audit(three, tuple(row[:2] + (row[2] * 8,) for row in record)))
        self.assertEqual({row[0] for row in record} & set(QUESTIONS), {"book", "told", "needed"})


if __name__ == "__main__":
    unittest.main()
