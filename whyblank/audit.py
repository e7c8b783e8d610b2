"""Audits: whether a record tells what a desk would have told, with slips that show it."""

from whyblank.desk import outcome_of
from whyblank.errors import InvalidCommand, Refused
from whyblank.facts import facts_of, told_by
from whyblank.kinds import is_tuple_of
from whyblank.slips import slip_holds
from whyblank.study import Study
from whyblank.texts import book_text
from whyblank.weights import is_every


def is_just(value, wanted):
    """Whether any value is this tuple, string, integer or bool, also within; no bool is an integer here."""
    if isinstance(wanted, tuple):
        return is_tuple_of(value, len(wanted)) and all([is_just(one, other) for one, other in zip(value, wanted)])
    return isinstance(value, bool) == isinstance(wanted, bool) and value == wanted


def outcome_or_none(study, line):
    """What a desk with this study tells when it is told a line, None if that is no command."""
    try:
        return outcome_of(study, line)
    except InvalidCommand:
        return None


def sheets_or_none(study):
    """The table of the sheets of a study, None if there are no sheets."""
    try:
        return study.sheets_now()
    except Refused:
        return None


def book_shown(chart, sheets, facts):
    """The outcome of `book` that facts show, where every sheet comes; None if they show none."""
    told = told_by(facts, "told", chart)
    if told is False:
        return ("refused", "apart")
    book = told_by(facts, "book", sheets) if told is True else None
    return None if book is None else ("told", book_text(book))


def is_shown(study, line, outcome, facts):
    """Whether facts show the outcome of a line, as far as they have to."""
    chart = study.chart_now()
    if line in ("told", "needed"):
        return told_by(facts, line, chart) == outcome[1]
    if line != "book":
        return True
    sheets = sheets_or_none(study)
    if sheets is None or not is_every(sheets):
        return True
    return book_shown(chart, sheets, facts) == outcome


def is_right(study, row):
    """Whether any value is a right row for a desk with this study, which is told the row's line."""
    if not is_tuple_of(row, 3) or not isinstance(row[2], tuple):
        return False
    line, outcome, slips = row
    wanted = outcome_or_none(study, line)
    if wanted is None or not is_just(outcome, wanted) or not all([slip_holds(slip) for slip in slips]):
        return False
    return is_shown(study, line, wanted, [fact for slip in slips for fact in facts_of(slip)])


def audit(form, record):
    """-1 for what is no tuple, else the number of the first wrong row of a record, None if there is none."""
    study = Study(form)
    if not isinstance(record, tuple):
        return -1
    for at, row in enumerate(record):
        if not is_right(study, row):
            return at
    return None
