"""Point [61]: the text of an ask, there and back."""

import itertools
import unittest

from checks import Case
from helpers import FORM, HUGE, WIDE, any_values, names, nested, random_ask, random_form, same, seeded
from test_asks import ODD, RIGHT
from whyblank.asks import Ask
from whyblank.asktext import ask_text, read_ask
from whyblank.errors import InvalidText
from whyblank.forms import Form

FOLLOWS = {
    "all": [], "is": ["question"], "blank": ["name"], "not": ["test"], "both": ["test", "test"], "either": ["test", "test"],
    "number": ["integer"], "answer": ["name"], "if": ["test"], "plus": ["worth", "worth"], "times": ["worth", "worth"],
}
KINDS = {"test": ["all", "is", "blank", "not", "both", "either"], "worth": ["number", "answer", "if", "plus", "times"]}


def plain_text(thing):
    """The text of a test or a worth, word by word."""
    return " ".join(plain_text(one) if isinstance(one, tuple) else str(one) for one in thing)


def is_integer(word):
    figures = word[1:] if word[:1] == "-" else word
    if not figures or any(sign not in "0123456789" for sign in figures):
        return False
    return figures == "0" and word == "0" or figures[0] != "0"


def first_wrong(form, text):
    """The number of the first wrong word, how many there are if the text could go on, None for a text."""
    words = text.split(" ")
    asked = ["worth", "given", "test"]
    known = dict(form.questions)
    for at, word in enumerate(words):
        if not asked:
            return at
        kind = asked.pop(0)
        if kind in KINDS:
            if word not in KINDS[kind]:
                return at
            asked = FOLLOWS[word] + asked
        elif kind == "given":
            if word != "given":
                return at
        elif kind == "integer":
            if not is_integer(word):
                return at
        elif kind in ("name", "question"):
            if word not in known:
                return at
            asked = ([("answer", known[word])] if kind == "question" else []) + asked
        elif word not in [str(number) for number in range(kind[1])]:
            return at
    return len(words) if asked else None


class Texts(Case):
    def judged(self, form, text):
        expected = first_wrong(form, text)
        if expected is None:
            self.assertEqual(ask_text(read_ask(form, text)), text)
        else:
            self.fails(InvalidText, expected, read_ask, form, text)
        return expected

    def test_there_and_back(self):
        random = seeded(190)
        for _ in range(300):
            form = random.choice([FORM, WIDE, ODD, random_form(random)])
            one = random_ask(random, form, random.randrange(1, 7))
            text = plain_text(one.worth) + " given " + plain_text(one.given)
            self.assertEqual(ask_text(one), text)
            self.assertTrue(same(read_ask(form, text), one))
            self.assertIsNone(first_wrong(form, text))
        self.assertEqual(ask_text(ask=RIGHT), "plus times answer debts number -3 if not is earns 1 given either both blank debts all is debts 0")
        self.assertEqual(read_ask(value=ask_text(RIGHT), form=FORM), RIGHT)

    def test_numbers(self):
        for number in (0, 1, -1, 10 ** 20 - 1, 1 - 10 ** 20, 10, -100):
            one = Ask(("number", number), ("all",))
            self.assertEqual(ask_text(one), "number " + str(number) + " given all")
            self.assertTrue(same(read_ask(FORM, ask_text(one)), one))
        one = read_ask(FORM, "number " + "9" * 130 + " given all")
        self.assertEqual(one.worth, ("number", 10 ** 130 - 1))
        for word in ("01", "-0", "+1", "--1", "-", "1.0", "00", "-01", "\u0661", "1\u00b2", "1_0", " 1", "0x1", "", "one"):
            self.fails(InvalidText, 1, read_ask, FORM, "number " + word + " given all")
        for word in ("2", "-1", "00", "01", "-0", "10", "", "x"):
            self.fails(InvalidText, 5, read_ask, FORM, "number 1 given is debts " + word)
        self.assertEqual(read_ask(WIDE, "number 1 given is drink 2").given, ("is", "drink", 2))
        self.fails(InvalidText, 5, read_ask, WIDE, "number 1 given is debts 2")

    def test_names_like_words(self):
        for name in names(ODD):
            one = Ask(("plus", ("answer", name), ("if", ("blank", name))), ("both", ("is", name, 1), ("not", ("all",))))
            self.assertTrue(same(read_ask(ODD, ask_text(one)), one))
        self.assertEqual(read_ask(ODD, "answer given given blank all"), Ask(("answer", "given"), ("blank", "all")))
        self.fails(InvalidText, 4, read_ask, ODD, "answer given given blank")
        self.fails(InvalidText, 2, read_ask, ODD, "answer given all")

    def test_what_is_no_string(self):
        for value in any_values():
            if not isinstance(value, str):
                self.fails(InvalidText, -1, read_ask, FORM, value)
            else:
                self.judged(FORM, value)
        self.fails(InvalidText, -1, read_ask, FORM, HUGE)
        self.fails(InvalidText, -1, read_ask, FORM, ("number 1 given all",))

    def test_texts_that_could_still_go_on(self):
        random = seeded(191)
        for _ in range(40):
            form = random.choice([FORM, ODD])
            words = ask_text(random_ask(random, form, 4)).split(" ")
            for many in range(1, len(words)):
                self.fails(InvalidText, many, read_ask, form, " ".join(words[:many]))
        # An empty string is one word, which is wrong.
        self.fails(InvalidText, 0, read_ask, FORM, "")
        self.fails(InvalidText, 0, read_ask, FORM, " ")
        self.fails(InvalidText, 1, read_ask, FORM, "number")

    def test_texts_a_little_changed(self):
        random = seeded(192)
        told = set()
        extra = ["", "given", "all", "is", "debts", "number", "0", "1", "-1", "01", "plus", "not", "answer", "earns", "blank", "\n", "ALL"]
        for _ in range(60):
            form = random.choice([FORM, ODD])
            words = ask_text(random_ask(random, form, 3)).split(" ")
            for at in range(len(words) + 1):
                for word in extra:
                    told.add(self.judged(form, " ".join(words[:at] + [word] + words[at:])))
            for at in range(len(words)):
                told.add(self.judged(form, " ".join(words[:at] + words[at + 1:])))
                told.add(self.judged(form, " ".join(words[:at + 1] + words[at:])))
                told.add(self.judged(form, " ".join(words[:at] + [words[at].upper()] + words[at + 1:])))
                if at:
                    turned = words[:at - 1] + [words[at], words[at - 1]] + words[at + 1:]
                    told.add(self.judged(form, " ".join(turned)))
            for text in (" ".join(words) + " ", " " + " ".join(words), "  ".join(words), "\n".join(words), " ".join(words) + "\n"):
                told.add(self.judged(form, text))
        self.assertGreater(len(told), 10)

    def test_all_short_texts(self):
        words = ["number", "1", "given", "all", "not", "answer", "debts", "if"]
        right = set()
        for many in range(1, 6):
            for some in itertools.product(words, repeat=many):
                if self.judged(FORM, " ".join(some)) is None:
                    right.add(" ".join(some))
        self.assertEqual(right, {
            "number 1 given all", "answer debts given all", "if all given all", "number 1 given not all", "answer debts given not all",
            "if not all given all", "if all given not all",
        })

    def test_no_two_asks_have_one_text(self):
        random = seeded(193)
        seen = {}
        for _ in range(2000):
            one = random_ask(random, ODD, 2)
            text = ask_text(one)
            self.assertTrue(same(seen.setdefault(text, one), one))

    def test_deep_and_long_texts(self):
        one = Ask(("if", nested(11)), nested(12))
        self.assertTrue(same(read_ask(FORM, ask_text(one)), one))
        text = "number 1 given " + "not " * 96 + "all"
        self.assertEqual(read_ask(FORM, text).given, nested(97))
        self.assertEqual(ask_text(read_ask(FORM, text)), text)
        self.fails(InvalidText, 99, read_ask, FORM, "number 1 given " + " ".join(["not"] * 96))
        self.fails(InvalidText, 1000, read_ask, Form((("a", 2),)), "number 1 given " + " ".join(["not"] * 997))
        self.fails(InvalidText, 1, read_ask, FORM, "number " + "a" * 3900)


if __name__ == "__main__":
    unittest.main()
