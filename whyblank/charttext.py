"""The text of a chart, there and back."""

from whyblank.charts import Chart, is_chart
from whyblank.errors import InvalidText
from whyblank.forms import Form

NUMERALS = ("2", "3", "4", "5", "6", "7", "8", "9")


def node_text(node):
    """The name for an answer, a question mark and the name for a blank."""
    return node[1] if node[0] == "a" else "?" + node[1]


def chart_text(chart):
    """The text of a chart."""
    lines = [name + " " + str(many) for name, many in chart.form.questions]
    lines = lines + [node_text(start) + " > " + node_text(end) for start, end in chart.arrows]
    lines = lines + [node_text(one) + " ~ " + node_text(other) for one, other in chart.bows]
    return "\n".join(lines)


def read_chart(value):
    """The chart with this text."""
    if not isinstance(value, str):
        raise InvalidText(-1)
    # Whole lines with which a chart's text begins are the text of a chart themselves: the lines come one by one.
    chart = Chart(Form(()), (), ())
    for at, line in enumerate(value.split("\n")):
        chart = with_line(chart, line)
        if not is_chart(chart):
            raise InvalidText(at)
    return chart


def with_line(chart, line):
    """The chart with what one line more tells, which may be none; None for a line of another kind."""
    form, words = chart.form, line.split(" ")
    if len(words) == 2 and words[1] in NUMERALS and not chart.arrows and not chart.bows:
        return Chart(Form(form.questions + ((words[0], int(words[1])),)), (), ())
    if len(words) != 3:
        return None
    pair = (node_with(words[0]), node_with(words[2]))
    if words[1] == ">" and not chart.bows:
        return Chart(form, chart.arrows + (pair,), ())
    if words[1] == "~":
        return Chart(form, chart.arrows, chart.bows + (pair,))
    return None


def node_with(word):
    """The node with this text, which may be a node of no question."""
    return ("b", word[1:]) if word.startswith("?") else ("a", word)
