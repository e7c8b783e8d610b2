"""Desks: studies that are told lines, and whose outcomes anyone can check."""

from whyblank.calls import call_paper
from whyblank.charttext import chart_text
from whyblank.commands import call_line, read_call
from whyblank.errors import InvalidCommand, Refused
from whyblank.judging import Told
from whyblank.study import Study
from whyblank.texts import book_text, sheets_text


def calls_told(study):
    """What `calls` tells."""
    return tuple([call_line(call) for call in study.calls()])


def chart_told(study):
    """What `chart` tells."""
    return chart_text(study.chart_now())


def depth_told(study):
    """What `depth` tells."""
    return study.depth()


def sheets_told(study):
    """What `sheets` tells."""
    return sheets_text(study.sheets_now())


def tally_told(study):
    """What `tally` tells."""
    return study.tally_now()


def told_now(study):
    """What `told` tells."""
    return study.needed_now() == ()


def needed_told(study):
    """What `needed` tells."""
    return study.needed_now()


def book_told(study):
    """What `book` tells."""
    found = study.judged_now()
    if not isinstance(found, Told):
        raise Refused("apart")
    return book_text(found.book)


ANSWERS = {
    "calls": calls_told,
    "chart": chart_told,
    "depth": depth_told,
    "sheets": sheets_told,
    "tally": tally_told,
    "told": told_now,
    "needed": needed_told,
    "book": book_told,
}


def outcome_of(study, line):
    """What a desk with this study tells, and does, when it is told a line."""
    if not isinstance(line, str):
        raise InvalidCommand()
    if line not in ANSWERS:
        return ("did", study.do(read_call(line)))
    answer = ANSWERS[line]
    try:
        return ("told", answer(study))
    except Refused as why:
        return ("refused", why.word)


def slips_for(study, line):
    """Some slips that hold, from which follows what a desk with this study tells behind a line."""
    chart = study.chart_now()
    if line in ("told", "needed"):
        return (("calls", (chart, study.needed_now()), call_paper(chart)),)
    if line != "book":
        return ()
    try:
        return (("judged", (chart, study.sheets_now()), study.judged_now()),)
    except Refused:
        return ()


class Desk:
    """A study that is told lines, and the record of what it told."""

    def __init__(self, form):
        self._study = Study(form)
        self._rows = ()

    def say(self, line):
        """Does what a line tells, and returns the outcome."""
        outcome = outcome_of(self._study, line)
        self._rows = self._rows + ((line, outcome, slips_for(self._study, line)),)
        return outcome

    def said(self):
        """The lines of which an outcome was told, in order."""
        return tuple([row[0] for row in self._rows])

    def record(self):
        """The rows (line, outcome, slips that show it), in order."""
        return self._rows


def run_lines(form, lines):
    """The outcomes of a new desk that is told some lines."""
    desk = Desk(form)
    return tuple([desk.say(line) for line in lines])
