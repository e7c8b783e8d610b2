"""Calls: the fewest questions to call back, and papers that show which they are."""

from whyblank.closedlots import check_closed, closed_lot
from whyblank.errors import Refused
from whyblank.forms import is_lot, names_of
from whyblank.kinds import is_tuple_of
from whyblank.towns import two_towns
from whyblank.ways import is_way, own_ways, way_of


def needed_calls(chart):
    """The lot of the questions that have an own way."""
    return own_ways(chart)


def uncalled_ways(chart, called):
    """The names of the questions with an own way that are not in a lot, ascending."""
    return tuple([name for name in needed_calls(chart) if name not in called])


def calls_tell(chart, called):
    """Whether a lot has all questions that have an own way."""
    return uncalled_ways(chart, called) == ()


def towns_beside(chart, called):
    """The two towns of the first question with an own way that is not in a lot."""
    left = uncalled_ways(chart, called)
    if not left:
        raise Refused("told")
    return two_towns(chart, left[0])


def call_row(chart, name):
    """What shows whether a question has an own way: a way or a closed lot, behind its name and a word."""
    way = way_of(chart, name)
    return (name, "closed", closed_lot(chart, name)) if way is None else (name, "way", way)


def call_paper(chart):
    """Some tuple that shows for each question, in order, whether it has an own way."""
    return tuple([call_row(chart, name) for name in names_of(chart.form)])


def is_own_way(chart, name, value):
    """Whether any value is an own way of the question with this name."""
    return is_way(chart, ("a", name), ("b", name), value)


def is_call_row(chart, name, word, value):
    """Whether any value shows by this word whether a question has an own way."""
    if not is_tuple_of(value, 3) or value[0] != name or value[1] != word:
        return False
    return is_own_way(chart, name, value[2]) if word == "way" else check_closed(chart, name, value[2])


def check_calls(chart, called, value):
    """Whether called is a lot, and value shows for each question, in order, whether it is one of this lot."""
    names = names_of(chart.form)
    if not is_lot(chart.form, called) or not is_tuple_of(value, len(names)):
        return False
    words = ["way" if name in called else "closed" for name in names]
    return all([is_call_row(chart, name, word, row) for name, word, row in zip(names, words, value)])
