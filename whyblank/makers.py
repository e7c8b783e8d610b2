"""Makers: coins and tables that make people as a chart draws it."""

from math import lcm

from whyblank.books import gathered_book
from whyblank.charts import is_chart, nodes_of, order_of, parents
from whyblank.errors import InvalidMaker, InvalidSize
from whyblank.forms import answers_of, names_of
from whyblank.fractions import HALF, ONE, ZERO, fraction, is_fraction, over, product_all, same_product, sign_of
from whyblank.fractions import times, total_of
from whyblank.kinds import is_tuple_of, tuples_over


class Maker:
    """A chart, a coin for each bow, and a table for each node."""

    def __init__(self, chart, coins, tables):
        self.chart = chart
        self.coins = coins
        self.tables = tables

    def __eq__(self, other):
        if not isinstance(other, Maker):
            return False
        return self.chart == other.chart and self.coins == other.coins and self.tables == other.tables


def values_of(form, node):
    """How many values a node has."""
    return answers_of(form, node[1]) if node[0] == "a" else 2


def feeders(chart, node):
    """The parents of a node, ascending, and behind them its bows."""
    return parents(chart, node) + tuple([bow for bow in chart.bows if node in bow])


def thing_size(chart, coins, thing):
    """How many values a node has, or how many sides the coin of a bow."""
    if thing in chart.bows:
        return len(coins[chart.bows.index(thing)])
    return values_of(chart.form, thing)


def sizes_fed(chart, coins, node):
    """How many values or sides each feeder of a node has."""
    return tuple([thing_size(chart, coins, feeder) for feeder in feeders(chart, node)])


def choices(chart, coins, node):
    """All choices of the values and sides of a node's feeders, ascending."""
    return tuples_over(sizes_fed(chart, coins, node))


def is_spread(value):
    """Whether any value is a tuple of fractions from 0 on that are 1 together."""
    if not isinstance(value, tuple):
        return False
    for share in value:
        if not is_fraction(share) or sign_of(share) < 0:
            return False
    return total_of(value) == ONE


def is_table(chart, coins, node, value):
    """Whether any value is a table of a node, by right coins."""
    many = 1
    for size in sizes_fed(chart, coins, node):
        many *= size
    if not is_tuple_of(value, many):
        return False
    for row in value:
        if not is_tuple_of(row, values_of(chart.form, node)) or not is_spread(row):
            return False
    return True


def right_coins(value, many):
    """How many coins stand at the beginning of any value, many at most."""
    right = 0
    if isinstance(value, tuple):
        while right < min(len(value), many) and is_spread(value[right]):
            right += 1
    return right


def right_tables(chart, coins, value):
    """How many tables of the nodes stand, in their order, at the beginning of any value."""
    nodes = nodes_of(chart.form)
    right = 0
    if isinstance(value, tuple):
        while right < min(len(value), len(nodes)) and is_table(chart, coins, nodes[right], value[right]):
            right += 1
    return right


def maker_fault(value):
    """What is wrong with any value as a maker, as `need_maker` tells it; None if nothing is."""
    if not isinstance(value, Maker) or not is_chart(value.chart):
        return -1
    many = len(value.chart.bows)
    coins = right_coins(value.coins, many)
    if not is_tuple_of(value.coins, many) or coins < many:
        return (0, coins)
    many = len(nodes_of(value.chart.form))
    tables = right_tables(value.chart, value.coins, value.tables)
    if not is_tuple_of(value.tables, many) or tables < many:
        return (1, tables)
    return None


def need_maker(value):
    """Raises `InvalidMaker` for what is no maker."""
    fault = maker_fault(value)
    if fault is not None:
        raise InvalidMaker(fault)


def is_maker(value):
    """Whether any value is a maker."""
    return maker_fault(value) is None


def even_row(many):
    """A row of so many equal shares."""
    return tuple([fraction(1, many) for _ in range(many)])


def even_maker(chart):
    """The maker whose coins have two sides and whose coins and rows have equal shares."""
    coins = tuple([(HALF, HALF) for _ in chart.bows])
    tables = []
    for node in nodes_of(chart.form):
        row = even_row(values_of(chart.form, node))
        tables.append(tuple([row for _ in choices(chart, coins, node)]))
    return Maker(chart, coins, tuple(tables))


def is_sure(maker):
    """Whether all shares in the coins and rows are above 0."""
    rows = list(maker.coins) + [row for table in maker.tables for row in table]
    return all([sign_of(share) > 0 for row in rows for share in row])


def number_of_choice(sizes, values):
    """The number that a choice has among all choices of so many values, ascending."""
    number = 0
    for size, value in zip(sizes, values):
        number = number * size + value
    return number


def plan_of(maker):
    """For each node, parents first: itself, its feeders, how many values or sides each of them has, its table."""
    chart = maker.chart
    nodes = nodes_of(chart.form)
    plan = []
    for node in order_of(chart):
        sizes = sizes_fed(chart, maker.coins, node)
        plan.append((node, feeders(chart, node), sizes, maker.tables[nodes.index(node)]))
    return plan


def values_shown(form, lot, truth):
    """The values of all nodes, ascending, of a person with this lot and this truth."""
    return tuple(truth) + tuple([int(name in lot) for name in names_of(form)])


def lot_and_truth(form, values):
    """The lot and the truth of a person of whom the values of all nodes, ascending, are these."""
    names = names_of(form)
    lot = tuple([name for name, blank in zip(names, values[len(names):]) if blank == 1])
    return (lot, tuple(values[:len(names)]))


def share_made(maker, lot, truth):
    """The share of a lot and a truth, summed over all sides of all coins."""
    chart, plan = maker.chart, plan_of(maker)
    values = values_shown(chart.form, lot, truth)
    shown = {node: value for node, value in zip(nodes_of(chart.form), values)}
    shares = []
    for sides in tuples_over([len(coin) for coin in maker.coins]):
        for bow, side in zip(chart.bows, sides):
            shown[bow] = side
        factors = [coin[side] for coin, side in zip(maker.coins, sides)]
        for node, fed, sizes, table in plan:
            row = table[number_of_choice(sizes, [shown[feeder] for feeder in fed])]
            factors.append(row[shown[node]])
        shares.append(product_all(factors))
    return total_of(shares)


def with_next_value(begun, places, sizes, table):
    """The rows of values, with their shares, that have one value more, where its share is above 0."""
    found = []
    for values, share in begun:
        row = table[number_of_choice(sizes, [values[place] for place in places])]
        for value, chance in enumerate(row):
            if chance != ZERO:
                found.append((values + (value,), times(share, chance)))
    return found


def book_made(maker):
    """The book of all people whom a maker makes."""
    form, things = maker.chart.form, list(maker.chart.bows)
    begun = [((), ONE)]
    for coin in maker.coins:
        begun = with_next_value(begun, (), (), (coin,))
    for node, fed, sizes, table in plan_of(maker):
        begun = with_next_value(begun, [things.index(feeder) for feeder in fed], sizes, table)
        things.append(node)
    places = [things.index(node) for node in nodes_of(form)]
    made = []
    for values, share in begun:
        lot, truth = lot_and_truth(form, [values[place] for place in places])
        made.append((lot, truth, share))
    return gathered_book(form, made)


def drawn(shares, draw):
    """The value that a draw picks by the shares of a coin or a row."""
    parts = 1
    for share in shares:
        parts = lcm(parts, share[1])
    value = 0
    upto = shares[0][0] * (parts // shares[0][1])
    while upto <= draw % parts:
        value += 1
        upto += shares[value][0] * (parts // shares[value][1])
    return value


def person_made(maker, draws):
    """The lot and the truth of the person whom a maker makes by these draws."""
    chart = maker.chart
    nodes = nodes_of(chart.form)
    shown = {}
    for bow, coin, draw in zip(chart.bows, maker.coins, draws):
        shown[bow] = drawn(coin, draw)
    for node, fed, sizes, table in plan_of(maker):
        row = table[number_of_choice(sizes, [shown[feeder] for feeder in fed])]
        shown[node] = drawn(row, draws[len(chart.bows) + nodes.index(node)])
    return lot_and_truth(chart.form, [shown[node] for node in nodes])


def free_given_rest(book, one, other):
    """Whether two nodes are free of each other in a book, all else being known."""
    nodes = nodes_of(book.form)
    first, second = nodes.index(one), nodes.index(other)
    tables = {}
    for lot, truth, share in book.shares:
        values = values_shown(book.form, lot, truth)
        rest = tuple([value for place, value in enumerate(values) if place != first and place != second])
        table = tables.setdefault(rest, {})
        table[(values[first], values[second])] = share
    many, others = values_of(book.form, one), values_of(book.form, other)
    return all([are_in_measure(table, many, others) for table in tables.values()])


def are_in_measure(table, many, others):
    """Whether all rows of a table, a dict from pairs of so many values each, are in one measure."""
    rows = [[table.get((value, beside), ZERO) for beside in range(others)] for value in range(many)]
    corners = [(low, high) for high in range(others) for low in range(high)]
    for at, row in enumerate(rows):
        for after in rows[at + 1:]:
            for low, high in corners:
                if not same_product(row[low], after[high], row[high], after[low]):
                    return False
    return True


def own_table(chart, book, node):
    """The table of a node whose rows are a book's own quotients, where no bow feeds the node."""
    nodes = nodes_of(chart.form)
    places = [nodes.index(feeder) for feeder in feeders(chart, node)] + [nodes.index(node)]
    heaps = {}
    for lot, truth, share in book.shares:
        values = values_shown(chart.form, lot, truth)
        heaps.setdefault(tuple([values[place] for place in places]), []).append(share)
    many = values_of(chart.form, node)
    rows = []
    for choice in choices(chart, (), node):
        parts = [total_of(heaps.get(choice + (value,), [])) for value in range(many)]
        total = total_of(parts)
        # Any row will do where nobody has the parents' values.
        rows.append(even_row(many) if total == ZERO else tuple([over(share, total) for share in parts]))
    return tuple(rows)


def maker_for(chart, book):
    """Some maker of a chart without bows that makes a book, None if there is none."""
    if chart.bows:
        raise InvalidSize("bows")
    tables = tuple([own_table(chart, book, node) for node in nodes_of(chart.form)])
    maker = Maker(chart, (), tables)
    return maker if book_made(maker) == book else None
