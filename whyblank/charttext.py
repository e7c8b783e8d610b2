"""The text of a chart, there and back."""

from whyblank.charts import Chart, may_follow_arrows, may_follow_bows
from whyblank.errors import InvalidText
from whyblank.forms import MOST_QUESTIONS, Form, may_follow

NUMERALS = ("2", "3", "4", "5", "6", "7", "8", "9")


def node_text(node):
    """The name for an answer, a question mark and the name for a blank."""
    return node[1] if node[0] == "a" else "?" + node[1]


def chart_text(chart):
    """The text of a chart."""
    lines = [name + " " + str(many) for name, many in chart.form.questions]
    lines = lines + [node_text(start) + " > " + node_text(end) for start, end in chart.arrows]
    lines = lines + [node_text(one) + " ~ " + node_text(other) for one, other in chart.bows]
    return "\n".join(lines)


def read_chart(value):
    """The chart with this text."""
    if not isinstance(value, str):
        raise InvalidText(-1)
    # Whole lines with which a chart's text begins are the text of a chart themselves: the lines come one by one.
    chart = Chart(Form(()), (), ())
    for at, line in enumerate(value.split("\n")):
        chart = with_line(chart, line)
        if chart is None:
            raise InvalidText(at)
    return chart


def with_line(chart, line):
    """The chart with what one line more tells, None if no chart's text goes on with it."""
    words = line.split(" ")
    if len(words) == 2 and words[1] in NUMERALS and not chart.arrows and not chart.bows:
        return with_question(chart.form.questions, (words[0], int(words[1])))
    if len(words) != 3:
        return None
    pair = (node_with(words[0]), node_with(words[2]))
    if words[1] == ">" and not chart.bows and may_follow_arrows(chart.form, chart.arrows, pair):
        return Chart(chart.form, chart.arrows + (pair,), ())
    if words[1] == "~" and may_follow_bows(chart.form, chart.bows, pair):
        return Chart(chart.form, chart.arrows, chart.bows + (pair,))
    return None


def with_question(questions, question):
    """The chart of these questions and one more, None if it may not stand behind them."""
    if len(questions) == MOST_QUESTIONS or not may_follow(questions, question):
        return None
    return Chart(Form(questions + (question,)), (), ())


def node_with(word):
    """The node with this text, which may be a node of no question."""
    return ("b", word[1:]) if word.startswith("?") else ("a", word)
