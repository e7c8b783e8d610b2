"""Point [86], of desks."""

import unittest

from checks import Case
from helpers import FORM, any_values, as_dict, every_sheet, is_package_object, mutants, same, seeded
from test_calls import plain_needed
from test_commands import plain_call
from test_forms import fault as form_fault
from test_judging import is_every
from test_onebook import plain_one_book
from test_slips import is_slip
from test_study import EIGHT, SOLE, Model, random_call
from whyblank.charttext import read_chart
from whyblank.commands import call_line
from whyblank.desk import Desk, run_lines
from whyblank.errors import InvalidCommand, InvalidForm
from whyblank.facts import facts_of, told_by
from whyblank.forms import Form
from whyblank.texts import read_book, read_sheets

QUESTIONS = ("calls", "chart", "depth", "sheets", "tally", "told", "needed", "book")
FILLED = "all sheet 0 0; sheet 1 1; sheet 2 .; sheet 3 ."


def plain_node(node):
    return {"a": "", "b": "?"}[node[0]] + node[1]


def plain_chart_text(chart):
    lines = ["%s %d" % question for question in chart.form.questions]
    lines += ["%s > %s" % tuple(map(plain_node, arrow)) for arrow in chart.arrows]
    return "\n".join(lines + ["%s ~ %s" % tuple(map(plain_node, bow)) for bow in chart.bows])


def plain_text(form, rows):
    head = "form " + " ".join("%s %d" % question for question in form.questions)
    return "\n".join([head] + rows)


def plain_figures(sheet):
    return "".join("." if answer < 0 else str(answer) for answer in sheet)


def plain_fraction(share):
    return str(share[0]) if share[1] == 1 else "%d/%d" % share


def plain_book_text(sheets):
    """The text of the one book of a table in which every sheet comes."""
    rows = []
    for (lot, truth), share in sorted(plain_one_book(sheets).items()):
        rows.append("%s %s %s" % (",".join(lot) or "-", plain_figures(truth), plain_fraction((share.numerator, share.denominator))))
    return plain_text(sheets.form, rows)


class PlainDesk:
    """A plain account of a desk: what it tells for a line, None for what is no command."""

    def __init__(self, form):
        self.model = Model(form)

    def say(self, line):
        call = plain_call(line)
        if call is not None:
            return ("did", self.model.do(call))
        chart, sheets = self.model.chart(), self.model.table()
        needed = plain_needed(chart)
        if line == "calls":
            return ("told", tuple(call_line(call) for call in self.model.calls()))
        if line == "chart":
            return ("told", plain_chart_text(chart))
        if line == "depth":
            return ("told", self.model.depth())
        if line == "tally":
            return ("told", self.model.tally())
        if line == "told":
            return ("told", needed == ())
        if line == "needed":
            return ("told", needed)
        if line == "sheets":
            rows = [plain_figures(sheet) + " " + plain_fraction(share) for sheet, share in sheets.shares] if sheets else []
            return ("told", plain_text(chart.form, rows)) if sheets else ("refused", "none")
        if line != "book":
            return None
        if sheets is None or not is_every(sheets):
            return ("refused", "none" if sheets is None else "nought")
        return ("refused", "apart") if needed else ("told", plain_book_text(sheets))


def filled(form):
    """A line with which every sheet of a form comes."""
    return call_line(("batch", tuple(("sheet", number, sheet) for number, sheet in enumerate(every_sheet(form)))))


def random_lines(random, form, many):
    """Lines of calls and questions, that tell the book at times."""
    plain, lines = PlainDesk(form), []
    for at in range(many):
        kind = random.randrange(9)
        line = random.choice(QUESTIONS) if kind < 5 else call_line(random_call(random, plain.model))
        if kind == 8:
            name = random.choice(form.questions)[0]
            line = "draw %s ?%s" % (name, name)
        if at == 1 and random.randrange(2):
            line = filled(form)
        lines.append(line)
        plain.say(line)
    return lines


class Lines(Case):
    def agrees(self, form, lines):
        """Each outcome, the lines said and the record are those of the plain account."""
        desk, plain, rows = Desk(form), PlainDesk(form), []
        for line in lines:
            expected = plain.say(line)
            if expected is None:
                self.fails_to_say(desk, line)
                continue
            self.assertTrue(same(desk.say(line), expected), (line, expected))
            rows.append((line, expected))
        self.assertTrue(same(desk.said(), tuple(line for line, _ in rows)))
        self.assertTrue(same(tuple(row[:2] for row in desk.record()), tuple(rows)))
        return desk, rows

    def fails_to_say(self, desk, line):
        ahead = (desk.said(), desk.record())
        with self.assertRaises(InvalidCommand) as held:
            desk.say(line)
        self.assertEqual(vars(held.exception), {})
        self.assertTrue(same((desk.said(), desk.record()), ahead))

    def test_random_lines(self):
        random = seeded(430)
        told = set()
        for _ in range(80):
            form = random.choice([SOLE, FORM, Form((("a", 3),))])
            lines = random_lines(random, form, 25)
            desk, rows = self.agrees(form, lines)
            told |= {(line if line in QUESTIONS else "call", outcome[0], outcome[1] if outcome[0] == "refused" else "") for line, outcome in rows}
            self.assertTrue(same(run_lines(form, lines), tuple(outcome for _, outcome in rows)))
            self.assertTrue(same(run_lines(lines=tuple(lines), form=form), tuple(outcome for _, outcome in rows)))
        wanted = {(line, "told", "") for line in QUESTIONS} | {("book", "refused", word) for word in ("none", "nought", "apart")}
        self.assertEqual(told, wanted | {("call", "did", ""), ("sheets", "refused", "none")})

    def test_each_line(self):
        desk = Desk(SOLE)
        for line, outcome in (
            ("calls", ("told", ())), ("chart", ("told", "debts 2")), ("depth", ("told", (0, 0))), ("sheets", ("refused", "none")), ("tally", ("told", ())),
            ("told", ("told", True)), ("needed", ("told", ())), ("book", ("refused", "none")), ("undo", ("did", "nothing")), ("redo", ("did", "nothing")),
            ("sheet 7 0", ("did", "done")), ("sheet 7 0", ("did", "number")), ("sheet 8 0 0", ("did", "sheet")), ("sheet 8", ("did", "sheet")),
            ("book", ("refused", "nought")), ("sheets", ("told", "form debts 2\n0 1")), ("tally", ("told", ((7, (0,)),))), ("all", ("did", "nothing")),
            (FILLED, ("did", "done")), ("book", ("told", "form debts 2\n- 0 2/5\n- 1 1/5\ndebts 0 4/15\ndebts 1 2/15")),
            ("sheets", ("told", "form debts 2\n. 2/5\n0 2/5\n1 1/5")), ("draw ?debts debts", ("did", "back")), ("draw debts ?debts", ("did", "done")),
            ("draw debts ?debts", ("did", "there")), ("told", ("told", False)), ("needed", ("told", ("debts",))), ("book", ("refused", "apart")),
            ("chart", ("told", "debts 2\ndebts > ?debts")), ("depth", ("told", (3, 0))), ("undo", ("did", "done")), ("depth", ("told", (2, 1))),
            ("calls", ("told", ("sheet 7 0", FILLED))), ("strike debts", ("did", "last")), ("strike pets", ("did", "name")),
            ("wipe arrow debts ?debts", ("did", "line")), ("ask earns 3", ("did", "done")), ("tally", ("told", ((0, (0, -1)), (1, (1, -1)), (2, (-1, -1)), (3, (-1, -1)), (7, (0, -1))))),
            ("redo", ("did", "nothing")), ("bow earns ?debts", ("did", "done")), ("strike earns", ("did", "used")), ("change 7 1 2", ("did", "done")),
            ("change 7 1 2", ("did", "nothing")), ("take 7", ("did", "done")), ("take 7", ("did", "number")), ("book", ("refused", "nought")),
        ):
            self.assertTrue(same(desk.say(line=line), outcome), line)
        self.assertEqual(len(desk.said()), 45)

    def test_lines_that_are_no_command(self):
        desk = Desk(FORM)
        desk.say("draw debts ?debts")
        wrong = ["", " ", "told ", " told", "Told", "told told", "depth 1", "do", "said", "record", "all told", "all chart", "batch", "call", "take", "book\n",
                 "draw debts debts", "undo undo", "sheet x 0 0", "sheet 0 0  0", ("told",), ["told"], b"told", "needed?", "verdict", "all undo", "judged"]
        for value in any_values() + wrong + [value for line in QUESTIONS for value in mutants(line) if value not in QUESTIONS]:
            if plain_call(value) is None and not (isinstance(value, str) and value in QUESTIONS):
                self.fails_to_say(desk, value)
        self.assertEqual(desk.said(), ("draw debts ?debts",))

    def test_a_line_of_which_no_outcome_is_told_is_not_said(self):
        random = seeded(431)
        lines = random_lines(random, FORM, 20)
        mixed = [one for line in lines for one in (line, random.choice([None, "", line + " ", 7, ("told",)]))]
        desk, _ = self.agrees(FORM, mixed)
        self.assertEqual(desk.said(), tuple(lines))
        for at in range(0, 40, 9):
            with self.assertRaises(InvalidCommand):
                run_lines(FORM, mixed[:at + 2])
        self.assertEqual(run_lines(FORM, []), ())
        self.assertEqual(run_lines(FORM, ()), ())

    def test_any_values_as_form(self):
        for value in any_values() + list(mutants(FORM)):
            at = form_fault(value)
            if at is None:
                self.assertEqual(Desk(form=value).record(), ())
            else:
                self.fails(InvalidForm, at, Desk, value)
                self.fails(InvalidForm, at, run_lines, value, ())

    def test_no_attributes_no_length_nothing_to_iterate(self):
        desk = Desk(FORM)
        self.assertTrue(all(name.startswith("_") for name in vars(desk)))
        for call in (len, iter, list):
            with self.assertRaises(TypeError):
                call(desk)
        self.assertFalse(desk == Desk(FORM))
        self.assertTrue(is_package_object(desk))


class Records(Case):
    def test_slips_hold_and_show_what_was_told(self):
        random = seeded(432)
        shown = set()
        for _ in range(60):
            form = random.choice([SOLE, FORM, Form((("a", 3),))])
            desk, plain = Desk(form), PlainDesk(form)
            name = form.questions[0][0]
            for line in random_lines(random, form, 20) + ["draw %s ?%s" % (name, name), "book", "told", filled(form), "book"]:
                desk.say(line)
                plain.say(line)
                chart = plain.model.chart()
                row = desk.record()[-1]
                self.assertEqual((type(row), len(row), type(row[2])), (tuple, 3, tuple))
                self.assertTrue(all(map(is_slip, row[2])))
                self.assertLessEqual(len(row[2]), 8)
                facts = [fact for slip in row[2] for fact in facts_of(slip)]
                if line in ("told", "needed"):
                    self.assertTrue(same(told_by(facts, line, chart), row[1][1]))
                    shown.add(line)
                if line == "book" and row[1] not in (("refused", "none"), ("refused", "nought")):
                    self.assertIs(told_by(facts, "told", chart), row[1][0] == "told")
                    shown.add(row[1][0])
        self.assertEqual(shown, {"told", "needed", "refused"})

    def test_a_record_does_not_change(self):
        desk = Desk(SOLE)
        desk.say(FILLED)
        record, said = desk.record(), desk.said()
        desk.say("book")
        self.assertEqual((len(record), len(said), len(desk.record())), (1, 1, 2))
        self.assertEqual(desk.record()[:1], record)

    def test_texts_can_be_read(self):
        desk = Desk(FORM)
        desk.say(filled(FORM))
        table = read_sheets(desk.say("sheets")[1])
        book = read_book(desk.say("book")[1])
        self.assertEqual(as_dict(book), plain_one_book(table))
        self.assertEqual(read_chart(desk.say("chart")[1]).form, FORM)

    def test_the_greatest_desks(self):
        desk = Desk(EIGHT)
        random = seeded(433)
        nodes = [plain_node((kind, letter)) for kind in "ab" for letter in "abcdefgh"]
        for number in range(40):
            self.assertEqual(desk.say("sheet %d %s" % (number, " ".join(random.choice(".012345678") for _ in range(8))))[1], "done")
        for _ in range(10):
            desk.say("draw %s %s" % tuple(random.sample(nodes, 2)))
        for _ in range(4):
            desk.say("bow %s %s" % tuple(random.sample(nodes, 2)))
        for line in QUESTIONS:
            self.assertIn(desk.say(line)[0], ("told", "refused"))
        self.assertTrue(all(is_slip(slip) for row in desk.record() for slip in row[2]))
        three = Form((("a", 3), ("b", 3), ("c", 3)))
        lines = [filled(three), "book", "draw a ?b", "book", "bow ?a ?b", "bow a ?b", "book", "told", "needed"]
        self.assertEqual(len(run_lines(three, lines)), 9)


if __name__ == "__main__":
    unittest.main()
