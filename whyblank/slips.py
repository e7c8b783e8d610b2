"""Slips: papers that show the answer to a question."""

from whyblank.calls import check_calls, is_own_way
from whyblank.charts import are_unlike_nodes, is_chart
from whyblank.closedlots import check_closed
from whyblank.cuts import check_cut
from whyblank.forms import names_of
from whyblank.judging import check_judged
from whyblank.kinds import is_tuple_of
from whyblank.onebook import check_book
from whyblank.sheets import is_sheets
from whyblank.towns import check_towns
from whyblank.weights import check_weights, is_every


def is_chart_with(value, many):
    """Whether any value is a tuple of a chart and so many things more."""
    return is_tuple_of(value, many + 1) and is_chart(value[0])


def is_named(value):
    """Whether any value is a pair of a chart and the name of one of its questions."""
    return is_chart_with(value, 1) and value[1] in names_of(value[0].form)


def way_holds(question, paper):
    """Whether any value is an own way of a question of a chart."""
    return is_named(question) and is_own_way(question[0], question[1], paper)


def closed_holds(question, paper):
    """Whether any value is a closed lot of a question of a chart."""
    return is_named(question) and check_closed(question[0], question[1], paper)


def calls_hold(question, paper):
    """Whether any value shows that a lot is that of the fewest questions to call back."""
    return is_chart_with(question, 1) and check_calls(question[0], question[1], paper)


def towns_hold(question, paper):
    """Whether any value is a pair of two towns of a chart."""
    return is_chart(question) and check_towns(question, paper)


def cut_holds(question, paper):
    """Whether any value is a pair of ways between two nodes and a cut of as many stretches."""
    if not is_chart_with(question, 2) or not are_unlike_nodes(question[0].form, question[1:]):
        return False
    return check_cut(question[0], question[1], question[2], paper)


def weights_hold(question, paper):
    """Whether any value is the tuple of the weights of a table of sheets."""
    return is_sheets(question) and check_weights(question, paper)


def book_holds(question, paper):
    """Whether any value is the one book of a table in which every sheet comes."""
    return is_sheets(question) and is_every(question) and check_book(question, paper)


def judged_holds(question, paper):
    """Whether any value shows what a chart and a table of sheets of one form tell of the book."""
    if not is_chart_with(question, 1) or not is_sheets(question[1]) or question[0].form != question[1].form:
        return False
    return check_judged(question[0], question[1], paper)


CHECKS = {
    "way": way_holds,
    "closed": closed_holds,
    "calls": calls_hold,
    "towns": towns_hold,
    "cut": cut_holds,
    "weights": weights_hold,
    "book": book_holds,
    "judged": judged_holds,
}


def slip_holds(value):
    """Whether any value is a slip that holds."""
    if not is_tuple_of(value, 3) or not isinstance(value[0], str) or value[0] not in CHECKS:
        return False
    check = CHECKS[value[0]]
    return check(value[1], value[2])
