"""Two towns: makers of one chart that have the same sheets, but unlike books."""

from whyblank.errors import Refused
from whyblank.forms import names_of
from whyblank.fractions import HALF, ONE, ZERO, fraction, plus, product_all, times, whole
from whyblank.kinds import is_tuple_of
from whyblank.leans import coins_along, sign, tables_along
from whyblank.makers import Maker, book_made, is_maker
from whyblank.sheets import sheets_of
from whyblank.ways import stops_of, way_of
from whyblank.weights import is_every


def town(chart, name, way, lean):
    """The maker with the coins and tables along an own way of the question with this name."""
    return Maker(chart, coins_along(chart, way), tables_along(chart, name, way, lean))


def towns_by(chart, name, way):
    """The towns by an own way that lean to 1 and to -1."""
    return (town(chart, name, way, 1), town(chart, name, way, -1))


def two_towns(chart, name):
    """The towns by the least of the shortest own ways of a question."""
    way = way_of(chart, name)
    if way is None:
        raise Refused("closed")
    return towns_by(chart, name, way)


def town_share(form, name, way, lean, lot, truth):
    """The share of a lot and a truth in a town, found by signs alone."""
    factors = [fraction(1, many) for _, many in form.questions] + [HALF for _ in form.questions[1:]]
    strength = times(whole(lean), signs_along(form, name, way, lot, truth)) if name in lot else ZERO
    if way[-1][0] == "arrow":
        last = times(HALF, plus(ONE, strength))
    elif name in lot:
        last = plus((3, 4), times(HALF, strength))
    else:
        last = (1, 4)
    return product_all(factors + [last])


def signs_along(form, name, way, lot, truth):
    """The product of the signs along an own way, halved at each inner stop, by a bow at its beginning, or once."""
    answers = {other: answer for other, answer in zip(names_of(form), truth)}
    signs = []
    for node in stops_of(way, ("a", name))[:-1]:
        signs.append(whole(sign(answers[node[1]] if node[0] == "a" else int(node[1] in lot))))
    halves = len(way) - 1 + int(way[0][0] == "bow")
    return product_all(signs + [HALF for _ in range(max(halves, 1))])


def have_other_truths(way):
    """Whether some truth has unlike shares in the two towns by an own way: no inner stop is a blank."""
    # All stretches but the last one join the first node, which is an answer, and inner stops.
    return all([node[0] == "a" for stretch in way[:-1] for node in stretch[1:]])


def shares_by_place(book):
    """The shares of a book, a dict by lots and truths."""
    return {(lot, truth): share for lot, truth, share in book.shares}


def parted_at(one, other):
    """The least lot and truth whose shares are unlike in two books of one form, None if the books are equal."""
    first, second = shares_by_place(one), shares_by_place(other)
    for place in sorted(list(first) + list(second)):
        if first.get(place, ZERO) != second.get(place, ZERO):
            return place
    return None


def is_maker_of(chart, value):
    """Whether any value is a maker of a chart."""
    return isinstance(value, Maker) and value.chart == chart and is_maker(value)


def check_towns(chart, value):
    """Whether any value is a pair of makers of a chart with the same sheets, each of which comes, but unlike books."""
    if not is_tuple_of(value, 2) or not is_maker_of(chart, value[0]) or not is_maker_of(chart, value[1]):
        return False
    one, other = book_made(value[0]), book_made(value[1])
    sheets = sheets_of(one)
    return is_every(sheets) and sheets_of(other) == sheets and one != other
