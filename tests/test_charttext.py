"""Point [16]: the texts of charts."""

import itertools
import unittest

from checks import Case
from helpers import FORM, WIDE, all_nodes, any_values, comes_to, names, random_chart, random_form, same, seeded
from test_charts import BIG, EMPTY, FULL
from whyblank.charts import Chart
from whyblank.charttext import chart_text, read_chart
from whyblank.errors import InvalidText
from whyblank.forms import Form

SMALL = Chart(WIDE, ((("a", "debts"), ("b", "drink")), (("a", "drink"), ("a", "debts"))), ((("a", "debts"), ("b", "debts")),))
SIGNS = "a d?>~29 01\n\t"


def first_wrong_line(text):
    """The number of the first line with which no chart's text goes on, None if there is none: line by line, apart."""
    questions, arrows, bows = [], [], []
    for at, line in enumerate(text.split("\n")):
        form = [name for name, _ in questions]
        nodes = {name: ("a", name) for name in form}
        nodes.update({"?" + name: ("b", name) for name in form})
        words = line.split(" ")
        if len(words) == 2 and not arrows and not bows:
            name, many = words
            right = name and len(name) < 9 and all(letter in "abcdefghijklmnopqrstuvwxyz" for letter in name)
            if not right or many not in list("23456789") or len(questions) == 8 or (form and name <= form[-1]):
                return at
            questions.append((name, int(many)))
        elif len(words) == 3 and words[0] in nodes and words[2] in nodes and words[1] in (">", "~"):
            one, other = nodes[words[0]], nodes[words[2]]
            if words[1] == ">":
                if bows or one[0] > other[0] or one == other or (arrows and arrows[-1] >= (one, other)):
                    return at
                if one in comes_to(arrows, other):
                    return at
                arrows.append((one, other))
            else:
                if not one < other or (bows and bows[-1] >= (one, other)):
                    return at
                bows.append((one, other))
        else:
            return at
    return None


def changed(text):
    """The text with a sign put in, left out, doubled or changed at each place, and with its lines changed."""
    for at in range(len(text) + 1):
        for sign in SIGNS:
            yield text[:at] + sign + text[at:]
            yield text[:at] + sign + text[at + 1:]
        yield text[:at] + text[at + 1:]
        yield text[:at] + text[at:at + 1] + text[at:]
    lines = text.split("\n")
    for one, other in itertools.combinations(range(len(lines)), 2):
        turned = list(lines)
        turned[one], turned[other] = turned[other], turned[one]
        yield "\n".join(turned)
    for at in range(len(lines)):
        yield "\n".join(lines[:at] + lines[at + 1:])
        yield "\n".join(lines[:at] + lines[at:at + 1] + lines[at:])
        yield "\n".join(lines[:at] + [""] + lines[at:])
        yield "\n".join(lines[:at])
    for sign in ("\r", "\x0b", "\x0c", "\u2028", "\u0085"):
        yield text.replace("\n", sign)
        yield text.replace("\n", sign + "\n")


class Texts(Case):
    def test_texts(self):
        self.assertEqual(chart_text(SMALL), "debts 2\ndrink 3\npets 2\ndebts > ?drink\ndrink > debts\ndebts ~ ?debts")
        self.assertEqual(chart_text(chart=EMPTY), "debts 2\nearns 2")
        self.assertTrue(same(read_chart(value="debts 2\nearns 2"), EMPTY))
        self.assertEqual(chart_text(FULL).split("\n")[2:4], ["debts > earns", "debts > ?debts"])

    def test_there_and_back(self):
        random = seeded(17)
        seen = {}
        charts = [EMPTY, FULL, SMALL, BIG]
        for _ in range(150):
            charts.append(random_chart(random, random_form(random, 5, 9), random.randrange(0, 9), random.randrange(0, 5)))
        for chart in charts:
            text = chart_text(chart)
            self.assertTrue(same(read_chart(text), chart))
            self.assertEqual(seen.setdefault(text, chart), chart)

    def test_no_string(self):
        for value in any_values():
            if not isinstance(value, str):
                self.fails(InvalidText, -1, read_chart, value)

    def test_first_wrong_line(self):
        told = [
            ("", 0), (" ", 0), ("\n", 0), ("debts 2\n", 1), ("\ndebts 2", 0), ("debts", 0), ("debts 1", 0), ("debts 10", 0), ("debts 02", 0),
            ("debts  2", 0), ("debts 2 ", 0), (" debts 2", 0), ("debts 2\ndebts 2", 1), ("debts 2\ncats 2", 1), ("debts > ?debts", 0),
            ("debts 2\ndebts > debts", 1), ("debts 2\ndebts > pets", 1), ("debts 2\n?debts > debts", 1), ("debts 2\ndebts >?debts", 1),
            ("debts 2\ndebts > ?debts\nearns 2", 2), ("debts 2\ndebts ~ ?debts\ndebts > ?debts", 2), ("debts 2\n?debts ~ debts", 1),
            ("debts 2\ndebts > ?debts\ndebts > ?debts", 2), ("debts 2\ndebts ~ ?debts\ndebts ~ ?debts", 2), ("debts \u0662", 0),
            ("debts 2\ndebts > ??debts", 1), ("debtsdebt 2", 0), ("DEBTS 2", 0), ("debts 2\r\nearns 2", 0), ("a 2\nb 2\na > b\nb > a", 3),
            ("a 2\nb 2\na > ?b\na > b", 3), ("a 2\nb 2\na ~ ?b\na ~ b", 3), ("a 2\nb 2\n?a > ?b\n?b > ?a", 3), ("a 2\n? > a", 1),
            ("a 2\na < ?a", 1), ("a 2\na > ", 1), ("a 2\n> a", 1), ("a 2\na > ?a b", 1), ("? 2", 0), ("?a 2", 0), (" 2", 0),
        ]
        for text, at in told:
            self.fails(InvalidText, at, read_chart, text)
            self.assertEqual(first_wrong_line(text), at, text)

    def test_nine_questions(self):
        lines = [letter + " 2" for letter in "abcdefghi"]
        self.assertEqual(len(read_chart("\n".join(lines[:8])).form.questions), 8)
        self.fails(InvalidText, 8, read_chart, "\n".join(lines))

    def test_changed_texts(self):
        for chart in (SMALL, FULL, EMPTY, Chart(Form((("a", 2),)), (), ())):
            for text in changed(chart_text(chart)):
                at = first_wrong_line(text)
                if at is None:
                    self.assertEqual(chart_text(read_chart(text)), text)
                else:
                    self.fails(InvalidText, at, read_chart, text)

    def test_strings_of_any_values(self):
        for value in any_values():
            if isinstance(value, str):
                at = first_wrong_line(value)
                if at is None:
                    self.assertEqual(chart_text(read_chart(value)), value)
                else:
                    self.fails(InvalidText, at, read_chart, value)

    def test_beginnings_of_texts_of_charts(self):
        """The number told is that of the first line with which no chart's text begins, by a list of many texts."""
        form = Form((("a", 2), ("b", 2)))
        nodes = all_nodes(form)
        texts = []
        for many in range(3):
            for arrows in itertools.combinations(list(itertools.permutations(nodes, 2)), many):
                for bows in itertools.combinations(list(itertools.combinations(nodes, 2)), 1):
                    chart = Chart(form, tuple(sorted(arrows)), bows)
                    right = all(one[0] <= other[0] for one, other in arrows)
                    if right and not any(node in comes_to(arrows, node) for node in nodes):
                        texts.append(chart_text(chart))
        beginnings = {"\n".join(text.split("\n")[:at]) for text in texts for at in range(1, 9)}
        words = ["a", "b", "?a", "?b"]
        rows = [" > ".join(pair) for pair in itertools.product(words, words)] + [
            " ~ ".join(pair) for pair in itertools.product(words, words)]
        for row, other in itertools.product(rows, rows):
            text = "\n".join(["a 2", "b 2", row, other])
            lines = text.split("\n")
            wrong = [at for at in range(4) if "\n".join(lines[:at + 1]) not in beginnings]
            is_two_bows = "~" in row and "~" in other
            if wrong and not is_two_bows:
                self.fails(InvalidText, wrong[0], read_chart, text)


if __name__ == "__main__":
    unittest.main()
