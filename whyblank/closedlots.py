"""Closed lots: nodes that show that no way goes from one node to another."""

from whyblank.charts import children, nodes_of, partners, reached, turned
from whyblank.forms import place_of
from whyblank.kinds import is_part_of


def are_joined(chart, one, other):
    """Whether an arrow or a bow joins two nodes."""
    return one in children(chart, other) or other in children(chart, one) or other in partners(chart, one)


def is_closed(chart, one, other, value):
    """Whether any value is a closed lot of the one node against the other."""
    if not is_part_of(value, nodes_of(chart.form)) or one in value or other in value:
        return False
    if are_joined(chart, one, other):
        return False
    inner = list(children(chart, one)) + list(partners(chart, one))
    for node in value:
        inner = inner + [partner for partner in partners(chart, node) if partner != one]
    outer = list(children(chart, other)) + list(partners(chart, other))
    return all([node in value for node in inner]) and not any([node in value for node in outer])


def closed_between(chart, one, other):
    """The closed lot of the one node against the other with the fewest nodes, None if there is none."""
    starts = [node for node in list(children(chart, one)) + list(partners(chart, one)) if node != other]
    bows = [bow for bow in chart.bows if one not in bow and other not in bow]
    lot = reached(starts, bows + turned(bows))
    return lot if is_closed(chart, one, other, lot) else None


def closed_lot(chart, name):
    """The closed lot of a question's answer against its blank with the fewest nodes, None if there is none."""
    place_of(chart.form, name)
    return closed_between(chart, ("a", name), ("b", name))


def check_closed(chart, name, value):
    """Whether any value is a closed lot of a question's answer against its blank."""
    place_of(chart.form, name)
    return is_closed(chart, ("a", name), ("b", name), value)
