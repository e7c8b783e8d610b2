"""Cuts: ways with no stretch in common, and as few stretches without which no way is left."""

from whyblank.kinds import is_tuple_of
from whyblank.ways import end_beyond, has_head, is_way, stretches_of, way_between, without


def useful_stretches(chart, one, other):
    """The stretches that ways between two nodes can have, ascending: at each other end of theirs there is a head."""
    return [stretch for stretch in stretches_of(chart) if is_useful(stretch, (one, other))]


def is_useful(stretch, ends):
    """Whether a stretch has heads at both its nodes, but for the two ends of ways."""
    return all([node in ends or has_head(stretch, node) for node in stretch[1:]])


def places_sent(stretches, sent, one):
    """By the nodes to which something more can be sent: the row of pairs (stretch, start) on which it comes there.

    What is sent already is a dict of the starts of stretches; it may be taken over in the other direction alone.
    """
    found = {one: ()}
    fresh = [one]
    while fresh:
        here = fresh[0]
        fresh = fresh[1:]
        for stretch in stretches:
            if here in stretch[1:] and sent.get(stretch) != here:
                beyond = end_beyond(stretch, here)
                if beyond not in found:
                    found[beyond] = found[here] + ((stretch, here),)
                    fresh.append(beyond)
    return found


def all_sent(stretches, one, other):
    """As much as can be sent from one node to another: a dict of the starts of the stretches that are gone along."""
    sent = {}
    row = places_sent(stretches, sent, one).get(other)
    while row is not None:
        for stretch, start in row:
            if stretch in sent:
                # Two that go along a stretch in both directions go on, each, where the other one would have.
                del sent[stretch]
            else:
                sent[stretch] = start
        row = places_sent(stretches, sent, one).get(other)
    return sent


def way_sent(sent, one, other):
    """One way along the stretches that are gone along, which are taken out of the dict; None if there is none."""
    way, stops = [], [one]
    while stops[-1] != other:
        onward = [stretch for stretch in sent if sent[stretch] == stops[-1]]
        if not onward:
            return None
        del sent[onward[0]]
        stop = end_beyond(onward[0], stops[-1])
        if stop in stops:
            # A round trip is left out.
            at = stops.index(stop)
            way, stops = way[:at], stops[:at + 1]
        else:
            way, stops = way + [onward[0]], stops + [stop]
    return tuple(way)


def apart_ways(chart, one, other):
    """Some ways between two nodes, no two with a stretch in common, as many as can be."""
    sent = all_sent(useful_stretches(chart, one, other), one, other)
    ways = []
    way = way_sent(sent, one, other)
    while way is not None:
        ways.append(way)
        way = way_sent(sent, one, other)
    return tuple(ways)


def fewest_cut(chart, one, other):
    """Some stretches, as few as can be, without which no way between two nodes is left."""
    stretches = useful_stretches(chart, one, other)
    found = places_sent(stretches, all_sent(stretches, one, other), one)
    return tuple([stretch for stretch in stretches if (stretch[1] in found) != (stretch[2] in found)])


def are_apart(chart, one, other, value):
    """Whether any value is a tuple of ways between two nodes, no two with a stretch in common."""
    if not isinstance(value, tuple) or not all([is_way(chart, one, other, way) for way in value]):
        return False
    gone_along = [stretch for way in value for stretch in way]
    return all([gone_along.count(stretch) == 1 for stretch in gone_along])


def is_cut(chart, one, other, value):
    """Whether any value is a tuple of unlike stretches without which no way between two nodes is left."""
    every = stretches_of(chart)
    if not isinstance(value, tuple) or not all([stretch in every for stretch in value]):
        return False
    if not all([value.count(stretch) == 1 for stretch in value]):
        return False
    return way_between(without(chart, value), one, other) is None


def check_cut(chart, one, other, value):
    """Whether any value is a pair of ways with no stretch in common, and of a cut of as many stretches."""
    if not is_tuple_of(value, 2):
        return False
    if not are_apart(chart, one, other, value[0]) or not is_cut(chart, one, other, value[1]):
        return False
    return len(value[0]) == len(value[1])
