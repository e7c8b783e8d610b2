"""Shares of some values, found by summing all else out, one thing after the other."""

from whyblank.charts import led_to, nodes_of
from whyblank.fractions import ONE, ZERO, added_up, times, total_of
from whyblank.kinds import tuples_over
from whyblank.makers import feeders, sizes_fed, values_of, values_shown


def margin(book, nodes):
    """The pairs (values of these nodes, share of all with them) where it is above 0, ascending."""
    every = nodes_of(book.form)
    places = [every.index(node) for node in nodes]
    pairs = []
    for lot, truth, share in book.shares:
        values = values_shown(book.form, lot, truth)
        pairs.append((tuple([values[place] for place in places]), share))
    return added_up(pairs)


class Factor:
    """Things, how many values or sides each has, and a share for each choice of these."""

    def __init__(self, things, sizes, shares):
        self.things = things
        self.sizes = sizes
        self.shares = shares

    def __eq__(self, other):
        if not isinstance(other, Factor):
            return False
        return self.things == other.things and self.sizes == other.sizes and self.shares == other.shares


def factors_of(maker):
    """The factors of all bows, and then of all nodes, ascending."""
    chart = maker.chart
    found = [Factor((bow,), (len(coin),), coin) for bow, coin in zip(chart.bows, maker.coins)]
    for node, table in zip(nodes_of(chart.form), maker.tables):
        things = feeders(chart, node) + (node,)
        sizes = sizes_fed(chart, maker.coins, node) + (values_of(chart.form, node),)
        found.append(Factor(things, sizes, tuple([share for row in table for share in row])))
    return tuple(found)


def steps_of(factor):
    """By things, how many choices later the share with the next value of the thing stands."""
    steps = {}
    step = 1
    for thing, size in zip(factor.things[::-1], factor.sizes[::-1]):
        steps[thing] = step
        step *= size
    return steps


def places_by(factor, things, sizes):
    """For each choice of these things' values the number of the share that a factor of some of them has there."""
    steps = steps_of(factor)
    places = [0]
    for thing, size in zip(things, sizes):
        step = steps.get(thing, 0)
        places = [place + step * value for place in places for value in range(size)]
    return places


def product_of(one, other):
    """The factor of the things of both whose shares are the products of theirs."""
    beside = [at for at, thing in enumerate(other.things) if thing not in one.things]
    things = tuple(one.things) + tuple([other.things[at] for at in beside])
    sizes = tuple(one.sizes) + tuple([other.sizes[at] for at in beside])
    firsts, seconds = places_by(one, things, sizes), places_by(other, things, sizes)
    shares = [times(one.shares[first], other.shares[second]) for first, second in zip(firsts, seconds)]
    return Factor(things, sizes, tuple(shares))


def summed_out(factor, thing):
    """The factor of the other things, with the sums over the values of this one."""
    at = factor.things.index(thing)
    things = factor.things[:at] + factor.things[at + 1:]
    sizes = factor.sizes[:at] + factor.sizes[at + 1:]
    step = steps_of(factor)[thing]
    sums = []
    for place in places_by(factor, things, sizes):
        sums.append(total_of([factor.shares[place + step * value] for value in range(factor.sizes[at])]))
    return Factor(things, sizes, tuple(sums))


def put_together(factors):
    """The product of some factors."""
    joint = Factor((), (), (ONE,))
    for factor in factors:
        joint = product_of(joint, factor)
    return joint


def told(factors, nodes, order):
    """The pairs (values, share) of nodes, told by factors when all things of an order are summed out."""
    for thing in order:
        having = [factor for factor in factors if thing in factor.things]
        others = [factor for factor in factors if thing not in factor.things]
        factors = others + [summed_out(put_together(having), thing)]
    left = put_together(factors)
    places = [left.things.index(node) for node in nodes]
    pairs = []
    for choice, share in zip(tuples_over(left.sizes), left.shares):
        if share != ZERO:
            pairs.append((tuple([choice[place] for place in places]), share))
    return tuple(sorted(pairs))


def summed(maker, nodes, order):
    """The margin of what a maker makes, all other things summed out in this order."""
    return told(factors_of(maker), nodes, order)


def needed(chart, nodes):
    """The nodes from which one comes to one of these by arrows, these among them, ascending."""
    return led_to(chart, nodes)


def summed_needed(maker, nodes):
    """The margin of what a maker makes, found by the factors of the bows and of the needed nodes alone."""
    chart = maker.chart
    used = chart.bows + needed(chart, nodes)
    factors = [factor for factor in factors_of(maker) if factor.things[-1] in used]
    return told(factors, nodes, [thing for thing in used if thing not in nodes])
