"""Facts: what slips that hold show, and what follows from it."""

from whyblank.forms import names_of
from whyblank.judging import Told


def facts_of(slip):
    """The facts that a slip which holds shows."""
    word, question, paper = slip
    if word == "way":
        return (("own", question, True), ("told", question[0], False))
    if word == "closed":
        return (("own", question, False),)
    if word == "calls":
        chart, called = question
        return (("needed", chart, called), ("told", chart, called == ()))
    if word == "towns":
        return (("told", question, False),)
    if word == "cut":
        return (("apart", question, len(paper[0])),)
    if word == "judged":
        return judged_facts(question, paper)
    return (slip,)


def judged_facts(question, paper):
    """The facts that a right judgement on a chart and a table of sheets shows."""
    chart, sheets = question
    if isinstance(paper, Told):
        return (("told", chart, True), ("book", sheets, paper.book))
    return (("own", (chart, paper.name), True), ("told", chart, False))


def own_answers(chart, facts):
    """Of which questions of a chart it is known whether they have an own way, a dict by names."""
    own = [fact for fact in facts if fact[0] == "own"]
    return {question[1]: answer for _, question, answer in own if question[0] == chart}


def following(fact, known):
    """The facts that follow at once from a fact among known ones, this one among them."""
    word, question, answer = fact
    if word == "needed":
        own = [("own", (question, name), name in answer) for name in names_of(question.form)]
        return own + [("told", question, answer == ())]
    if word == "told":
        return [("needed", question, ())] if answer else []
    if word != "own":
        return []
    chart = question[0]
    found = [("told", chart, False)] if answer else []
    own, names = own_answers(chart, known), names_of(chart.form)
    if all([name in own for name in names]):
        found.append(("needed", chart, tuple([name for name in names if own[name]])))
    return found


def all_facts(facts):
    """These facts and all that follows from those in it, none twice."""
    known, fresh = [], list(facts)
    while fresh:
        fact = fresh.pop()
        if fact not in known:
            known.append(fact)
            fresh = fresh + following(fact, known)
    return tuple(known)


def told_by(facts, word, question):
    """The answer to a question under a word, by facts and what follows from them, None if there is none."""
    for fact in all_facts(facts):
        if fact[0] == word and fact[1] == question:
            return fact[2]
    return None
