"""Leans: coins and tables along an own way that lean a blank to its own answer."""

from whyblank.charts import nodes_of
from whyblank.fractions import HALF, ONE, ZERO, fraction, minus, over, plus, times, whole
from whyblank.makers import choices, even_row, feeders, values_of
from whyblank.ways import stops_of


def sign(value):
    """1 for 0, -1 for 1, 0 for other numbers."""
    if value == 0:
        return 1
    return -1 if value == 1 else 0


def leaned_row(many, strength):
    """So many shares, each as it would be evenly, times 1 and the strength times the value's sign."""
    even = fraction(1, many)
    return tuple([times(even, plus(ONE, times(strength, whole(sign(value))))) for value in range(many)])


def coins_along(chart, way):
    """Two even sides for each bow of a way, one side for any other bow."""
    return tuple([(HALF, HALF) if ("bow", bow[0], bow[1]) in way else (ONE,) for bow in chart.bows])


def feeder_of(stretch):
    """What feeds a node at which a stretch has a head: the arrow's start, or the bow."""
    return stretch[1] if stretch[0] == "arrow" else (stretch[1], stretch[2])


def table_along(chart, name, way, lean, node):
    """The table of a node, by the coins along an own way of the question with this name."""
    fed = feeders(chart, node)
    rows = []
    for choice in choices(chart, coins_along(chart, way), node):
        shown = {feeder: value for feeder, value in zip(fed, choice)}
        rows.append(row_along(chart, name, way, lean, node, shown))
    return tuple(rows)


def tables_along(chart, name, way, lean):
    """The tables of all nodes, ascending, by the coins along an own way of the question with this name."""
    return tuple([table_along(chart, name, way, lean, node) for node in nodes_of(chart.form)])


def row_along(chart, name, way, lean, node, shown):
    """The row of a node where its feeders show these values and sides, a dict."""
    stops = stops_of(way, ("a", name))
    many = values_of(chart.form, node)
    if node not in stops:
        return even_row(many)
    if node == stops[0]:
        return leaned_row(many, first_strength(way, lean, shown))
    if node == stops[-1]:
        return last_row(way, lean, shown)
    at = stops.index(node)
    return leaned_row(many, inner_strength(way, lean, at, shown))


def inner_strength(way, lean, at, shown):
    """How strongly the inner stop with this number leans."""
    come, onward = shown[feeder_of(way[at - 1])], shown[feeder_of(way[at])]
    if at < len(way) - 1:
        return times(HALF, whole(sign(come) * sign(onward)))
    return times(HALF, whole(sign(come) * lean * onward))


def first_strength(way, lean, shown):
    """How strongly the first node leans."""
    if len(way) == 1 and way[0][0] == "arrow":
        return fraction(lean, 4)
    if way[0][0] == "arrow":
        return ZERO
    side = shown[feeder_of(way[0])]
    return times(HALF, whole(lean * side if len(way) == 1 else sign(side)))


def last_row(way, lean, shown):
    """The row of the last node."""
    if way[-1][0] == "arrow" and len(way) > 1:
        return even_row(2)
    value = shown[feeder_of(way[-1])]
    if way[-1][0] == "bow":
        return (ZERO, ONE) if value == 1 else even_row(2)
    strength = fraction(lean * sign(value), 2)
    blank = over(plus(ONE, strength), plus(whole(2), strength))
    return (minus(ONE, blank), blank)
