"""Point [85]: the lines of calls."""

import re
import unittest

from checks import Case
from helpers import HUGE, any_values, same, seeded
from test_charts import A, B, C, D
from test_study import FORM, Model, is_call, random_call
from whyblank.commands import call_line, read_call
from whyblank.errors import InvalidCommand
from whyblank.study import Study

LINES = [
    (("ask", "pets", 3), "ask pets 3"), (("strike", "debts"), "strike debts"), (("draw", A, C), "draw debts ?debts"),
    (("draw", C, A), "draw ?debts debts"), (("bow", D, B), "bow ?earns earns"), (("wipe", ("arrow", A, C)), "wipe arrow debts ?debts"),
    (("wipe", ("bow", C, D)), "wipe bow ?debts ?earns"), (("sheet", 0, (0, -1)), "sheet 0 0 ."), (("sheet", 12, ()), "sheet 12"),
    (("sheet", 3, (-1,)), "sheet 3 ."), (("change", 7, (10, 999999999, 0)), "change 7 10 999999999 0"), (("take", 999999999), "take 999999999"),
    (("undo",), "undo"), (("redo",), "redo"), (("batch", ()), "all"), (("batch", (("take", 0),)), "all take 0"),
    (("batch", (("sheet", 0, ()), ("sheet", 1, (-1, 2)), ("strike", "a"))), "all sheet 0; sheet 1 . 2; strike a"),
    (("ask", "undo", 2), "ask undo 2"), (("ask", "all", 9), "ask all 9"), (("strike", "batch"), "strike batch"),
    (("strike", "undo"), "strike undo"), (("strike", "redo"), "strike redo"),
    (("wipe", ("arrow", A, A)), "wipe arrow debts debts"), (("batch", (("bow", A, ("b", "z")),) * 2), "all bow debts ?z; bow debts ?z"),
]
NAME, NODE, NUMBER = "([a-z]{1,8})", "(\\??[a-z]{1,8})", "(0|[1-9][0-9]{0,8})"
SHAPES = [
    ("ask", " %s ([2-9])" % NAME), ("strike", " %s" % NAME), ("draw", " %s %s" % (NODE, NODE)), ("bow", " %s %s" % (NODE, NODE)),
    ("wipe", " (arrow|bow) %s %s" % (NODE, NODE)), ("sheet", " %s((?: (?:\\.|%s))*)" % (NUMBER, NUMBER.replace("(", "(?:"))),
    ("change", " %s((?: (?:\\.|%s))*)" % (NUMBER, NUMBER.replace("(", "(?:"))), ("take", " %s" % NUMBER),
]


def node(word):
    return ("b", word[1:]) if word[0] == "?" else ("a", word)


def plain_deed(line):
    """The deed with this line, None if there is none, told apart from the package."""
    for word, shape in SHAPES:
        found = re.fullmatch(word + shape, line)
        if found:
            parts = found.groups()
            if word == "ask":
                return (word, parts[0], int(parts[1]))
            if word == "strike":
                return (word, parts[0])
            if word == "take":
                return (word, int(parts[0]))
            if word == "wipe":
                return (word, (parts[0], node(parts[1]), node(parts[2])))
            if word in ("draw", "bow"):
                return (word, node(parts[0]), node(parts[1])) if parts[0] != parts[1] else None
            return (word, int(parts[0]), tuple(-1 if one == "." else int(one) for one in parts[1].split()))
    return None


def plain_call(value):
    """The call with this line, None if there is none."""
    if type(value) is not str:
        return None
    if value in ("undo", "redo"):
        return (value,)
    if value == "all":
        return ("batch", ())
    if value[:4] == "all ":
        deeds = tuple(plain_deed(line) for line in value[4:].split("; "))
        return None if None in deeds else ("batch", deeds)
    return plain_deed(value)


def random_line(random):
    return call_line(random_call(random, model_of(random)))


def model_of(random):
    model = Model(FORM)
    for _ in range(random.randrange(6)):
        model.do(random_call(random, model))
    return model


class Commands(Case):
    def agrees(self, value):
        expected = plain_call(value)
        if expected is None:
            with self.assertRaises(InvalidCommand) as held:
                read_call(value)
            self.assertIs(held.exception.__class__, InvalidCommand)
            self.assertEqual(vars(held.exception), {})
        else:
            self.assertTrue(same(read_call(value), expected), value)
            self.assertTrue(same(call_line(expected), value), value)
        return expected

    def test_lines(self):
        for call, line in LINES:
            self.assertTrue(is_call(call))
            self.assertTrue(same(call_line(call), line))
            self.assertTrue(same(read_call(line), call))
            self.assertTrue(same(self.agrees(line), call))
        self.assertEqual(call_line(call=("undo",)), "undo")
        self.assertEqual(read_call(value="undo"), ("undo",))

    def test_there_and_back(self):
        random = seeded(360)
        seen = {}
        for _ in range(1500):
            call = random_call(random, model_of(random))
            line = call_line(call)
            self.assertIs(type(line), str)
            self.assertTrue(same(read_call(line), call), line)
            self.assertTrue(same(seen.setdefault(line, call), call))

    def test_no_call_is_told_by_two_lines(self):
        random = seeded(361)
        calls = [call for call, _ in LINES] + [random_call(random, model_of(random)) for _ in range(300)]
        lines = {}
        for call in calls:
            lines.setdefault(call_line(call), []).append(call)
        for some in lines.values():
            self.assertTrue(all(same(call, some[0]) for call in some))

    def test_signs_put_in_left_out_doubled_and_turned(self):
        random = seeded(362)
        told = set()
        for line in [line for _, line in LINES] + [random_line(random) for _ in range(60)]:
            for at in range(len(line) + 1):
                for sign in " .?;0z9-\n\t" + random.choice(["A", "_", "\u00b2", "\u0665", "\u00e4", "\u00a0", "\r"]):
                    told.add(self.agrees(line[:at] + sign + line[at:]) is None)
                    told.add(self.agrees(line[:at] + sign + line[at + 1:]) is None)
                told.add(self.agrees(line[:at] + line[at + 1:]) is None)
                told.add(self.agrees(line[:at] + line[at:at + 1] + line[at:]) is None)
        self.assertEqual(told, {True, False})

    def test_words_put_in_left_out_doubled_and_turned(self):
        random = seeded(363)
        for line in [line for _, line in LINES] + [random_line(random) for _ in range(60)]:
            words = line.split(" ")
            for at in range(len(words) + 1):
                for word in ("", ".", "0", "00", "debts", "?debts", "??debts", "all", "undo", "sheet", "take", ";", "-1", "arrow", "1000000000"):
                    self.agrees(" ".join(words[:at] + [word] + words[at:]))
                    self.agrees(" ".join(words[:at] + [word] + words[at + 1:]))
                self.agrees(" ".join(words[:at] + words[at + 1:]))
                self.agrees(" ".join(words[:at] + words[at:at + 1] * 2 + words[at + 1:]))
            random.shuffle(words)
            self.agrees(" ".join(words))
            self.agrees(line.upper())
            self.agrees(line.replace("; ", ";"))
            self.agrees(line.replace("; ", " ; "))
            self.agrees(line + "; ")
            self.agrees("all " + line)

    def test_blanks(self):
        for line in ("", " ", "all ", " all", "all  take 0", "take  0", "take 0 ", " take 0", "sheet 0 ", "sheet 0  .", "undo ", " redo", "all; take 0",
                     "all take 0;", "all take 0; ", "all take 0 ; take 1", "all take 0;take 1", "all ; take 0", "all take 0;  take 1", "sheet"):
            self.fails_to_read(line)

    def fails_to_read(self, line):
        with self.assertRaises(InvalidCommand):
            read_call(line)
        self.assertIsNone(plain_call(line))

    def test_zeros_ahead_and_ten_figures(self):
        for line in ("take 00", "take 01", "sheet 1 00", "sheet 1 01", "sheet 01 0", "take 1000000000", "sheet 0 1234567890", "take -1", "sheet 0 -1",
                     "take +1", "take 1_0", "ask a 02", "ask a 10", "ask a 1", "ask a 0", "take \u0661", "take \u00b2", "take 0.5", "sheet 0 .."):
            self.fails_to_read(line)
        for number in (0, 9, 10, 99999999, 100000000, 999999999):
            self.assertEqual(read_call("take %d" % number), ("take", number))
            self.assertEqual(read_call("sheet 0 %d ." % number), ("sheet", 0, (number, -1)))

    def test_batches(self):
        self.assertEqual(read_call("all"), ("batch", ()))
        deeds = tuple(call for call, _ in LINES if call[0] not in ("batch", "undo", "redo"))
        line = "all " + "; ".join(line for call, line in LINES if call in deeds)
        self.assertEqual(call_line(("batch", deeds)), line)
        self.assertEqual(read_call(line), ("batch", deeds))
        for line in ("all undo", "all redo", "all all", "all all take 0", "all take 0; all", "all take 0; undo", "all told", "all take 0; chart"):
            self.fails_to_read(line)

    def test_what_is_no_string_and_no_call(self):
        for value in any_values() + [["take 0"], ("take 0",), ("take", 0), b"take 0", "told", "chart", "batch", "take", "ask", "do"]:
            self.assertIsNone(self.agrees(value) if type(value) is not bytes else None)
        for line in ("draw a a", "bow ?a ?a", "draw ??a b", "draw a? b", "strike ?a", "strike abcdefghi", "wipe a ?a", "wipe line a ?a", "wipe arrow a"):
            self.fails_to_read(line)

    def test_long_numbers_have_lines_as_well(self):
        """Such a line is read back as no call."""
        line = call_line(("take", HUGE))
        self.assertEqual(line[:6] + line[-1:], "take 17")
        self.assertEqual(len(line), len("take ") + 4000)
        self.fails_to_read(line)
        self.assertEqual(call_line(("sheet", 10 ** 9, (10 ** 9, -1))), "sheet 1000000000 1000000000 .")

    def test_lines_of_a_thousand_signs(self):
        random = seeded(364)
        line = "all " + "; ".join("sheet %d %s" % (number, " ".join(random.choice(".012") for _ in range(8))) for number in range(40))
        self.assertLess(len(line), 1100)
        self.assertEqual(call_line(read_call(line)), line)
        self.assertEqual(Study(FORM).do(read_call(line)), "sheet")
        self.agrees("sheet 0" + " ." * 490)
        self.agrees("all " * 200)
        self.agrees("; " * 400)


if __name__ == "__main__":
    unittest.main()
