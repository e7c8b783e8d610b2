"""Charts: arrows and bows between the answers and the blanks of questions."""

from whyblank.errors import InvalidChart, Refused
from whyblank.forms import Form, is_form, names_of
from whyblank.kinds import is_tuple_of


class Chart:
    """A form, arrows and bows."""

    def __init__(self, form, arrows, bows):
        self.form = form
        self.arrows = arrows
        self.bows = bows

    def __eq__(self, other):
        if not isinstance(other, Chart):
            return False
        return self.form == other.form and self.arrows == other.arrows and self.bows == other.bows


def nodes_of(form):
    """All nodes of a form, ascending."""
    names = names_of(form)
    return tuple([("a", name) for name in names] + [("b", name) for name in names])


def are_unlike_nodes(form, value):
    """Whether any value is a pair of unlike nodes."""
    nodes = nodes_of(form)
    return is_tuple_of(value, 2) and value[0] in nodes and value[1] in nodes and value[0] != value[1]


def goes_back(start, end):
    """Whether an arrow between these nodes would go from a blank to an answer."""
    return start[0] == "b" and end[0] == "a"


def may_follow_arrows(form, ahead, value):
    """Whether any value is an arrow that may stand in a chart behind these arrows."""
    if not are_unlike_nodes(form, value) or goes_back(value[0], value[1]):
        return False
    if len(ahead) > 0 and value <= ahead[-1]:
        return False
    return value[0] not in reached((value[1],), ahead)


def may_follow_bows(form, ahead, value):
    """Whether any value is a bow that may stand in a chart behind these bows."""
    if not are_unlike_nodes(form, value) or value[0] > value[1]:
        return False
    return len(ahead) == 0 or value > ahead[-1]


def chart_fault(value):
    """What is wrong with any value as a chart, as `need_chart` tells it; None if nothing is."""
    if not isinstance(value, Chart) or not is_form(value.form):
        return -1
    if not isinstance(value.arrows, tuple) or not isinstance(value.bows, tuple):
        return -1
    for at, arrow in enumerate(value.arrows):
        if not may_follow_arrows(value.form, value.arrows[:at], arrow):
            return (0, at)
    for at, bow in enumerate(value.bows):
        if not may_follow_bows(value.form, value.bows[:at], bow):
            return (1, at)
    return None


def need_chart(value):
    """Raises `InvalidChart` for what is no chart."""
    fault = chart_fault(value)
    if fault is not None:
        raise InvalidChart(fault)


def is_chart(value):
    """Whether any value is a chart."""
    return chart_fault(value) is None


def reached(starts, steps):
    """The starts and all to which one comes from them over steps, pairs (from, to), ascending."""
    found = {start: True for start in starts}
    fresh = list(found)
    while fresh:
        here = fresh.pop()
        for start, end in steps:
            if start == here and end not in found:
                found[end] = True
                fresh.append(end)
    return tuple(sorted(found))


def turned(pairs):
    """Pairs, each with its second thing first."""
    return [(second, first) for first, second in pairs]


def parents(chart, node):
    """The nodes from which an arrow goes to a node, ascending."""
    return tuple([start for start, end in chart.arrows if end == node])


def children(chart, node):
    """The nodes to which an arrow goes from a node, ascending."""
    return tuple([end for start, end in chart.arrows if start == node])


def partners(chart, node):
    """The other ends of the bows of a node, ascending."""
    ends = list(chart.bows) + turned(chart.bows)
    return tuple(sorted([other for one, other in ends if one == node]))


def led_from(chart, nodes):
    """Some nodes and all to which one comes from them by arrows, ascending."""
    return reached(nodes, chart.arrows)


def led_to(chart, nodes):
    """Some nodes and all from which one comes to them by arrows, ascending."""
    return reached(nodes, turned(chart.arrows))


def first_without_start(left, arrows):
    """The first of the nodes that are left to which no arrow goes from one of them, None if there is none."""
    held = [end for start, end in arrows if start in left]
    free = [node for node in left if node not in held]
    return free[0] if free else None


def order_of(chart):
    """All nodes, at each place the least one that is not ahead but whose parents all are."""
    return order_or_ring(chart.form, chart.arrows)[1]


def order_or_ring(form, arrows):
    """Some pair of "order" and an order for arrows that may go round, or of "ring" and a ring of them."""
    left = list(nodes_of(form))
    order = []
    while left:
        node = first_without_start(left, arrows)
        if node is None:
            return ("ring", ring_among(left, arrows))
        order.append(node)
        left.remove(node)
    return ("order", tuple(order))


def ring_among(left, arrows):
    """A ring of nodes to each of which an arrow goes from one of them."""
    gone_back = [left[0]]
    while True:
        before = [start for start, end in arrows if end == gone_back[-1] and start in left][0]
        if before in gone_back:
            ring = gone_back[gone_back.index(before):]
            return tuple(ring[::-1])
        gone_back.append(before)


def is_order(form, arrows, value):
    """Whether any value is an order for arrows."""
    nodes = nodes_of(form)
    if not is_tuple_of(value, len(nodes)) or not all([node in value for node in nodes]):
        return False
    return all([value.index(start) < value.index(end) for start, end in arrows])


def is_ring(arrows, value):
    """Whether any value is a ring of arrows."""
    if not isinstance(value, tuple) or len(value) < 2:
        return False
    for at, node in enumerate(value):
        if node in value[:at] or (value[at - 1], node) not in arrows:
            return False
    return True


def check_order_or_ring(form, arrows, value):
    """Whether any value is what `order_or_ring` may return."""
    if not is_tuple_of(value, 2):
        return False
    if value[0] == "order":
        return is_order(form, arrows, value[1])
    return value[0] == "ring" and is_ring(arrows, value[1])


def with_arrow(chart, start, end):
    """The chart with one arrow more."""
    if goes_back(start, end):
        raise Refused("back")
    if (start, end) in chart.arrows:
        raise Refused("there")
    if start in led_from(chart, (end,)):
        raise Refused("ring")
    return Chart(chart.form, tuple(sorted(list(chart.arrows) + [(start, end)])), chart.bows)


def with_bow(chart, one, other):
    """The chart with one bow more."""
    bow = (min(one, other), max(one, other))
    if bow in chart.bows:
        raise Refused("there")
    return Chart(chart.form, chart.arrows, tuple(sorted(list(chart.bows) + [bow])))


def chart_part(chart, names):
    """The chart of some questions alone, with all arrows and bows between their nodes."""
    form = Form(tuple([question for question in chart.form.questions if question[0] in names]))
    arrows = tuple([arrow for arrow in chart.arrows if is_between(arrow, names)])
    return Chart(form, arrows, tuple([bow for bow in chart.bows if is_between(bow, names)]))


def is_between(pair, names):
    """Whether both nodes of an arrow or a bow are of questions with these names."""
    return pair[0][1] in names and pair[1][1] in names


def groups_of(chart):
    """The groups of questions that hang together, by their first names."""
    joined = [(one[1], other[1]) for one, other in list(chart.arrows) + list(chart.bows)]
    steps = joined + turned(joined)
    groups = []
    for name in names_of(chart.form):
        group = reached((name,), steps)
        if group not in groups:
            groups.append(group)
    return tuple(groups)
