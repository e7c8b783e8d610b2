"""Studies: a chart and numbered sheets that change call by call, and what they tell at each moment."""

from whyblank.calls import needed_calls
from whyblank.charts import Chart, with_arrow, with_bow
from whyblank.errors import Refused
from whyblank.forms import MOST_QUESTIONS, Form, is_many, is_sheet, names_of, need_form, place_of
from whyblank.judging import judged, verdict
from whyblank.kinds import is_name, is_number, is_tuple_of
from whyblank.sheets import even_sheets, left_place, without_place
from whyblank.ways import stretches_of, without

# What stands behind the word of each deed.
PARTS = {
    "ask": ("name", "many"),
    "strike": ("name",),
    "draw": ("node", "node"),
    "bow": ("node", "node"),
    "wipe": ("stretch",),
    "sheet": ("number", "sheet"),
    "change": ("number", "sheet"),
    "take": ("number",),
}


def is_node(value):
    """Whether any value is a node of some question."""
    return is_tuple_of(value, 2) and value[0] in ("a", "b") and is_name(value[1])


def is_stretch(value):
    """Whether any value is a stretch between two nodes of some questions."""
    return is_tuple_of(value, 3) and value[0] in ("arrow", "bow") and is_node(value[1]) and is_node(value[2])


def is_part(kind, value):
    """Whether any value may stand in a deed where this kind of thing is told."""
    if kind == "name":
        return is_name(value)
    if kind == "many":
        return is_many(value)
    if kind == "node":
        return is_node(value)
    if kind == "stretch":
        return is_stretch(value)
    # Whether something is a sheet hangs on the form, so each value may stand where one is told.
    return kind == "sheet" or is_number(value)


def is_deed(value):
    """Whether any value is a deed."""
    if not isinstance(value, tuple) or len(value) == 0 or not isinstance(value[0], str) or value[0] not in PARTS:
        return False
    kinds = PARTS[value[0]]
    if len(value) != len(kinds) + 1 or not all([is_part(kind, part) for kind, part in zip(kinds, value[1:])]):
        return False
    return value[0] not in ("draw", "bow") or value[1] != value[2]


def is_batch(value):
    """Whether any value is a batch of deeds."""
    if not is_tuple_of(value, 2) or value[0] != "batch" or not isinstance(value[1], tuple):
        return False
    return all([is_deed(deed) for deed in value[1]])


def is_call(value):
    """Whether any value is a call."""
    return value == ("undo",) or value == ("redo",) or is_batch(value) or is_deed(value)


def need_question(form, name):
    """Raises `Refused` for the name of no question."""
    if name not in names_of(form):
        raise Refused("name")


def ask_done(chart, tally, deed):
    """The chart and the tally when a question comes, blank on all sheets."""
    _, name, many = deed
    form = chart.form
    if name in names_of(form):
        raise Refused("name")
    if len(form.questions) == MOST_QUESTIONS:
        raise Refused("many")
    grown = Form(tuple(sorted(form.questions + ((name, many),))))
    place = place_of(grown, name)
    sheets = [(number, sheet[:place] + (-1,) + sheet[place:]) for number, sheet in tally]
    return (Chart(grown, chart.arrows, chart.bows), tuple(sheets))


def strike_done(chart, tally, deed):
    """The chart and the tally when a question goes, and what was answered to it."""
    _, name = deed
    need_question(chart.form, name)
    if name in [node[1] for pair in chart.arrows + chart.bows for node in pair]:
        raise Refused("used")
    place = left_place(chart.form, name)
    form = Form(without_place(chart.form.questions, place))
    sheets = [(number, without_place(sheet, place)) for number, sheet in tally]
    return (Chart(form, chart.arrows, chart.bows), tuple(sheets))


def line_done(chart, tally, deed):
    """The chart and the tally when an arrow or a bow comes."""
    word, one, other = deed
    need_question(chart.form, one[1])
    need_question(chart.form, other[1])
    return (with_arrow(chart, one, other) if word == "draw" else with_bow(chart, one, other), tally)


def wipe_done(chart, tally, deed):
    """The chart and the tally when an arrow or a bow goes."""
    _, stretch = deed
    if stretch not in stretches_of(chart):
        raise Refused("line")
    return (without(chart, (stretch,)), tally)


def need_number(tally, number, is_there):
    """Raises `Refused` for a number that is there or not, but should be as told."""
    if (number in [pair[0] for pair in tally]) != is_there:
        raise Refused("number")


def sheet_done(chart, tally, deed):
    """The chart and the tally when a sheet comes, or is another one."""
    word, number, sheet = deed
    need_number(tally, number, word == "change")
    if not is_sheet(chart.form, sheet):
        raise Refused("sheet")
    others = [pair for pair in tally if pair[0] != number]
    return (chart, tuple(sorted(others + [(number, sheet)])))


def take_done(chart, tally, deed):
    """The chart and the tally when a sheet goes."""
    _, number = deed
    need_number(tally, number, True)
    return (chart, tuple([pair for pair in tally if pair[0] != number]))


DEEDS = {
    "ask": ask_done,
    "strike": strike_done,
    "draw": line_done,
    "bow": line_done,
    "wipe": wipe_done,
    "sheet": sheet_done,
    "change": sheet_done,
    "take": take_done,
}


def all_done(place, deeds):
    """The chart and the tally when deeds are done one after the other; `Refused` with the word of a wrong one."""
    chart, tally = place
    for deed in deeds:
        action = DEEDS[deed[0]]
        chart, tally = action(chart, tally, deed)
    return (chart, tally)


def gone_over(source, target, place):
    """Two rows of pairs (call, place) when the last call of the one goes over to the other, and the place there."""
    call, other = source[-1]
    return (source[:-1], target + ((call, place),), other)


class Study:
    """Questions, arrows, bows and sheets, and the calls by which they came."""

    def __init__(self, form):
        need_form(form)
        self._place = (Chart(form, (), ()), ())
        # Each call with the place ahead of it, and each one taken back with the place behind it, the next one last.
        self._past = ()
        self._ahead = ()

    def do(self, call):
        """Does a call and returns "done", or another word that tells why nothing has changed."""
        if not is_call(call):
            return "call"
        if call == ("undo",):
            return self._undo()
        if call == ("redo",):
            return self._redo()
        try:
            place = all_done(self._place, call[1] if call[0] == "batch" else (call,))
        except Refused as why:
            return why.word
        if place == self._place:
            return "nothing"
        self._past = self._past + ((call, self._place),)
        self._ahead = ()
        self._place = place
        return "done"

    def _undo(self):
        """Takes back the last call that was done."""
        if not self._past:
            return "nothing"
        self._past, self._ahead, self._place = gone_over(self._past, self._ahead, self._place)
        return "done"

    def _redo(self):
        """Does the last call that was taken back again."""
        if not self._ahead:
            return "nothing"
        self._ahead, self._past, self._place = gone_over(self._ahead, self._past, self._place)
        return "done"

    def chart_now(self):
        """The chart."""
        return self._place[0]

    def tally_now(self):
        """The pairs (number, sheet) of all sheets, ascending."""
        return self._place[1]

    def sheets_now(self):
        """The table of the sheets, to which each number adds an equal share."""
        return even_sheets(self.chart_now().form, [sheet for _, sheet in self.tally_now()])

    def verdict_now(self):
        """Whether sheets tell the book, with closed lots, or with a question and its own way."""
        return verdict(self.chart_now())

    def needed_now(self):
        """The lot of the questions that have an own way."""
        return needed_calls(self.chart_now())

    def judged_now(self):
        """What the chart and the sheets tell of the book."""
        return judged(self.chart_now(), self.sheets_now())

    def calls(self):
        """The calls that were done and are not undone, in order."""
        return tuple([pair[0] for pair in self._past])

    def depth(self):
        """How many calls can be undone, and how many redone."""
        return (len(self._past), len(self._ahead))

    def twin(self):
        """Another one at the same place, which goes on alone."""
        other = Study(self.chart_now().form)
        other._place = self._place
        other._past = self._past
        other._ahead = self._ahead
        return other
