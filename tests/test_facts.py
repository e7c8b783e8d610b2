"""Point [84]: facts."""

import unittest

from checks import Case
from helpers import FORM, any_values, is_package_object, names, random_chart, random_sheets, same, seeded
from test_charts import A, C, EMPTY, FULL
from test_slips import SOLE, X, Y, random_slips, slips_of
from whyblank.calls import call_paper, needed_calls
from whyblank.charts import Chart
from whyblank.facts import all_facts, facts_of, told_by
from whyblank.forms import Form
from whyblank.judging import Apart, Told, judged
from whyblank.onebook import one_book
from whyblank.towns import two_towns
from whyblank.ways import way_of
from whyblank.weights import weights

ARROW = Chart(FORM, ((A, C),), ())
SHEETS = random_sheets(seeded(420), FORM)


def key(thing):
    """A thing of tuples, strings, numbers and objects of the package, as what may be a member of a set."""
    if isinstance(thing, tuple):
        return ("tuple",) + tuple(map(key, thing))
    if is_package_object(thing):
        return (type(thing).__name__,) + tuple((name, key(one)) for name, one in sorted(vars(thing).items()))
    return (type(thing).__name__, thing)


def plain_closure(facts):
    """All that follows from some facts, these among them, by going over all of them again and again."""
    found = {key(fact): fact for fact in facts}
    while True:
        fresh = []
        for word, question, answer in found.values():
            if word == "needed":
                fresh += [("own", (question, name), name in answer) for name in names(question.form)] + [("told", question, answer == ())]
            if word == "told" and answer:
                fresh.append(("needed", question, ()))
            if word == "own" and answer:
                fresh.append(("told", question[0], False))
            if word == "own":
                own = {fact[1][1]: fact[2] for fact in found.values() if fact[0] == "own" and same(fact[1][0], question[0])}
                if sorted(own) == names(question[0].form):
                    fresh.append(("needed", question[0], tuple(name for name in sorted(own) if own[name])))
        more = {key(fact): fact for fact in fresh if key(fact) not in found}
        if not more:
            return found
        found.update(more)


class FactsOf(Case):
    def test_of_every_word(self):
        chart, name = ARROW, "debts"
        paper = call_paper(chart)
        cut = (((("arrow", A, C),),), (("arrow", A, C),))
        apart = judged(chart, SHEETS)
        told = judged(EMPTY, SHEETS)
        for slip, facts in (
            (("way", (chart, name), way_of(chart, name)), (("own", (chart, name), True), ("told", chart, False))),
            (("closed", (chart, "earns"), ()), (("own", (chart, "earns"), False),)),
            (("calls", (chart, (name,)), paper), (("needed", chart, (name,)), ("told", chart, False))),
            (("calls", (EMPTY, ()), call_paper(EMPTY)), (("needed", EMPTY, ()), ("told", EMPTY, True))),
            (("towns", chart, two_towns(chart, name)), (("told", chart, False),)),
            (("cut", (chart, A, C), cut), (("apart", (chart, A, C), 1),)),
            (("cut", (chart, C, A), ((), ())), (("apart", (chart, C, A), 0),)),
            (("weights", SHEETS, weights(SHEETS)), (("weights", SHEETS, weights(SHEETS)),)),
            (("book", SHEETS, one_book(SHEETS)), (("book", SHEETS, one_book(SHEETS)),)),
            (("judged", (EMPTY, SHEETS), told), (("told", EMPTY, True), ("book", SHEETS, one_book(SHEETS)))),
            (("judged", (chart, SHEETS), apart), (("own", (chart, name), True), ("told", chart, False))),
        ):
            self.assertTrue(same(facts_of(slip), facts), slip[0])
            self.assertTrue(same(facts_of(slip=slip), facts), slip[0])
        self.assertIs(type(told), Told)
        self.assertIs(type(apart), Apart)

    def test_judged_tells_its_own_name_and_book(self):
        chart = Chart(FORM, ((A, C), (("a", "earns"), ("b", "earns"))), ())
        one, other = two_towns(chart, "earns")
        paper = Apart("earns", way_of(chart, "earns"), one, other)
        self.assertTrue(same(facts_of(("judged", (chart, SHEETS), paper)), (("own", (chart, "earns"), True), ("told", chart, False))))


class AllFacts(Case):
    def agrees(self, facts):
        """What follows is as found by going over all facts again and again, none twice."""
        for some in (facts, tuple(facts), facts[::-1], facts + facts):
            found = all_facts(some)
            self.assertIs(type(found), tuple)
            keys = [key(fact) for fact in found]
            self.assertEqual(len(set(keys)), len(keys))
            self.assertEqual(set(keys), set(plain_closure(facts)))
        return found

    def test_random_slips(self):
        random = seeded(421)
        for slips in random_slips(422, 30):
            for _ in range(4):
                facts = [fact for slip in random.sample(slips, random.randrange(len(slips) + 1)) for fact in facts_of(slip)]
                random.shuffle(facts)
                self.agrees(facts)

    def test_of_none(self):
        self.assertTrue(same(all_facts(()), ()))
        self.assertTrue(same(all_facts([]), ()))
        self.assertIsNone(told_by((), "told", EMPTY))

    def test_what_follows_over_several_steps(self):
        own = [("own", (EMPTY, "debts"), False), ("own", (EMPTY, "earns"), False)]
        self.assertEqual(set(plain_closure(own)), {key(one) for one in own + [("needed", EMPTY, ()), ("told", EMPTY, True)]})
        self.agrees(own)
        self.agrees(own[:1])
        self.assertTrue(same(all_facts(own[:1]), (own[0],)))
        told = self.agrees([("told", EMPTY, True)])
        self.assertEqual(len(told), 4)
        self.assertEqual(len(self.agrees([("told", FULL, False)])), 1)
        self.assertEqual(len(self.agrees([("own", (ARROW, "debts"), True)])), 2)
        self.assertEqual(len(self.agrees([("own", (ARROW, "debts"), True), ("own", (ARROW, "earns"), False)])), 4)
        self.assertEqual(len(self.agrees([("needed", ARROW, ("debts",))])), 4)

    def test_of_several_charts(self):
        """Charts that are alike are one, others do not meddle."""
        same_chart = Chart(Form(FORM.questions), ((A, C),), ())
        facts = [("own", (ARROW, "debts"), True), ("own", (EMPTY, "earns"), False)]
        self.assertEqual(len(self.agrees(facts)), 3)
        self.assertIsNone(told_by(facts, "needed", ARROW))
        self.assertIsNone(told_by(facts, "needed", EMPTY))
        facts = [("own", (ARROW, "debts"), True), ("own", (same_chart, "earns"), False)]
        self.assertEqual(told_by(facts, "needed", Chart(FORM, ((A, C),), ())), ("debts",))

    def test_weights_books_and_cuts_lead_no_further(self):
        facts = [("weights", SHEETS, weights(SHEETS)), ("book", SHEETS, one_book(SHEETS)), ("apart", (ARROW, A, C), 1)]
        self.assertEqual(len(self.agrees(facts)), 3)

    def test_sixty_facts(self):
        form = Form(tuple((letter, 9) for letter in "abcdefgh"))
        random = seeded(423)
        facts = []
        for _ in range(30):
            chart = random_chart(random, form, 10, 4)
            facts += [("needed", chart, needed_calls(chart)), ("told", chart, needed_calls(chart) == ())]
        self.assertEqual(len(all_facts(facts)), len(plain_closure(facts)))
        own = [("own", (chart, name), name in needed) for _, chart, needed in facts[:14:2] for name in "abcdefgh"]
        for word, chart, needed in facts[:14:2]:
            self.assertEqual(told_by(own, word, chart), needed)


class ToldBy(Case):
    def test_among_facts_and_what_follows(self):
        random = seeded(424)
        found = set()
        for slips in random_slips(425, 20):
            facts = [fact for slip in random.sample(slips, random.randrange(len(slips) + 1)) for fact in facts_of(slip)]
            closure = list(plain_closure(facts).values())
            questions = [slip[1] for slip in slips] + [fact[1] for fact in closure] + [slips[0][1][0]]
            for word in ("own", "told", "needed", "apart", "weights", "book", "way", "judged"):
                for question in questions:
                    answers = [fact[2] for fact in closure if fact[0] == word and same(fact[1], question)]
                    self.assertLessEqual(len(answers), 1)
                    self.assertTrue(same(told_by(facts, word, question), answers[0] if answers else None))
                    found.add((word, bool(answers)))
        self.assertGreater(len(found), 12)
        self.assertIs(told_by(question=EMPTY, word="told", facts=[("own", (EMPTY, "debts"), False), ("own", (EMPTY, "earns"), False)]), True)

    def test_any_values_as_word_and_question(self):
        facts = [fact for slip in slips_of(ARROW, SHEETS) + slips_of(EMPTY, SHEETS) for fact in facts_of(slip)]
        for value in any_values() + [[ARROW, "debts"], (ARROW, "pets"), (ARROW, "debts", ()), Chart(FORM, [(A, C)], ()), ARROW]:
            if not has_bool(value):
                self.assertIsNone(told_by(facts, value, ARROW))
                self.assertIsNone(told_by(facts, "own", value))
                self.assertIsNone(told_by(facts, value, value))
                if not same(value, EMPTY) and not same(value, ARROW):
                    self.assertIsNone(told_by(facts, "told", value), value)
        self.assertIs(told_by(facts, "told", ARROW), False)
        self.assertIs(told_by(facts, "told", EMPTY), True)
        self.assertIs(told_by(facts, "own", (ARROW, "debts")), True)
        self.assertIs(told_by(facts, "own", (ARROW, "earns")), False)
        self.assertTrue(same(told_by(facts, "needed", EMPTY), ()))

    def test_no_two_slips_show_two_answers(self):
        random = seeded(426)
        for _ in range(12):
            form = random.choice([SOLE, FORM])
            charts = [random_chart(random, form, 2, 1) for _ in range(3)] + [Chart(form, (), ())]
            tables = [random_sheets(random, form) for _ in range(2)]
            facts = [fact for chart in charts for sheets in tables for slip in slips_of(chart, sheets) for fact in facts_of(slip)]
            answers = {}
            for word, question, answer in plain_closure(facts).values():
                self.assertTrue(same(answers.setdefault((word, key(question)), answer), answer))
        self.assertEqual(len(slips_of(Chart(SOLE, ((X, Y),), ()), random_sheets(random, SOLE))), 7)


def has_bool(value):
    if isinstance(value, (tuple, list)):
        return any(map(has_bool, value))
    return isinstance(value, bool) or (is_package_object(value) and any(map(has_bool, vars(value).values())))


if __name__ == "__main__":
    unittest.main()
