"""Ways: rows of arrows and bows with heads from both sides at each inner stop."""

from whyblank.charts import Chart, nodes_of
from whyblank.errors import InvalidWay
from whyblank.forms import names_of, place_of


def stretches_of(chart):
    """All stretches of a chart, ascending."""
    arrows = [("arrow", start, end) for start, end in chart.arrows]
    return tuple(arrows + [("bow", one, other) for one, other in chart.bows])


def without(chart, stretches):
    """The chart without some of its stretches."""
    arrows = [arrow for arrow in chart.arrows if ("arrow", arrow[0], arrow[1]) not in stretches]
    bows = [bow for bow in chart.bows if ("bow", bow[0], bow[1]) not in stretches]
    return Chart(chart.form, tuple(arrows), tuple(bows))


def has_head(stretch, node):
    """Whether a stretch has a head at one of its ends."""
    return stretch[0] == "bow" or stretch[2] == node


def end_beyond(stretch, node):
    """The end of a stretch to which one comes from the other one."""
    return stretch[1] if stretch[2] == node else stretch[2]


def goes_on(way, stretch, stop):
    """Whether a stretch leads on from the stop to which some stretches have come."""
    if stop != stretch[1] and stop != stretch[2]:
        return False
    return len(way) == 0 or (has_head(way[-1], stop) and has_head(stretch, stop))


def way_fault(chart, one, other, value):
    """What is wrong with any value as a way, as `need_way` tells it; None if nothing is."""
    if not isinstance(value, tuple) or len(value) == 0:
        return -1
    stretches = stretches_of(chart)
    stops = [one]
    for at, stretch in enumerate(value):
        if stretch not in stretches or stops[-1] == other or not goes_on(value[:at], stretch, stops[-1]):
            return at
        stop = end_beyond(stretch, stops[-1])
        if stop in stops:
            return at
        stops.append(stop)
    return None if stops[-1] == other else len(value)


def need_way(chart, one, other, value):
    """Raises `InvalidWay` for what is no way from the one node to the other."""
    fault = way_fault(chart, one, other, value)
    if fault is not None:
        raise InvalidWay(fault)


def is_way(chart, one, other, value):
    """Whether any value is a way from the one node to the other."""
    return way_fault(chart, one, other, value) is None


def stops_of(way, one):
    """All nodes that a way from a node meets, both ends, too."""
    stops = [one]
    for stretch in way:
        stops.append(end_beyond(stretch, stops[-1]))
    return tuple(stops)


def turned_way(way):
    """A way gone back."""
    return tuple(way[::-1])


def ways_between(chart, one, other):
    """All ways from the one node to the other, ascending."""
    stretches = stretches_of(chart)
    found = []
    begun = [((), (one,))]
    while begun:
        way, stops = begun.pop()
        if stops[-1] == other:
            found.append(way)
        else:
            onward = [stretch for stretch in stretches if goes_on(way, stretch, stops[-1])]
            grown = [(way + (stretch,), stops + (end_beyond(stretch, stops[-1]),)) for stretch in onward]
            begun = begun + [pair for pair in grown if pair[1][-1] not in stops]
    return tuple(sorted(found))


def way_between(chart, one, other):
    """The least of the ways from the one node to the other with the fewest stretches, None if there is none."""
    met = {one: True}
    ends = {one: ()}
    while ends and other not in ends:
        ends = one_stretch_on(chart, ends, met, other)
        for stop in ends:
            met[stop] = True
    return ends.get(other)


def one_stretch_on(chart, ends, met, other):
    """The least rows of one stretch more than those that end at some stops, by the new stops to which they come."""
    stretches = stretches_of(chart)
    found = {}
    for stop, way in ends.items():
        for stretch in stretches:
            if goes_on(way, stretch, stop):
                beyond = end_beyond(stretch, stop)
                # Where a stretch has no head nothing goes on, so it may only come to the end.
                useful = beyond == other or has_head(stretch, beyond)
                # Rows are met ascending here, so the first one that comes to a stop is the least.
                if useful and beyond not in met and beyond not in found:
                    found[beyond] = way + (stretch,)
    return found


def joined_pairs(chart):
    """The pairs of nodes, the lesser one first, that a way joins, ascending."""
    nodes = nodes_of(chart.form)
    pairs = [(one, other) for at, one in enumerate(nodes) for other in nodes[at + 1:]]
    return tuple([pair for pair in pairs if way_between(chart, pair[0], pair[1]) is not None])


def way_of(chart, name):
    """The least of the shortest own ways of a question, None if there is none."""
    place_of(chart.form, name)
    return way_between(chart, ("a", name), ("b", name))


def own_ways(chart):
    """The names of the questions that have an own way, ascending."""
    return tuple([name for name in names_of(chart.form) if way_of(chart, name) is not None])
