"""Fractions: tuples (top, bottom) in lowest terms, the bottom above 0."""

from math import gcd, lcm

from whyblank.errors import InvalidFraction, InvalidSize, InvalidText
from whyblank.kinds import is_int, is_tuple_of

ZERO = (0, 1)
ONE = (1, 1)
HALF = (1, 2)

HEAP_WIDTH = 64
HEAP = 10 ** 64


def fraction_fault(value):
    """What is wrong with any value as a fraction, as `need_fraction` tells it; None if nothing is."""
    if not is_tuple_of(value, 2) or not is_int(value[0]) or not is_int(value[1]):
        return -1
    if value[1] <= 0:
        return 1
    if gcd(value[0], value[1]) > 1:
        return 0
    return None


def need_fraction(value):
    """Raises `InvalidFraction` for what is no fraction."""
    fault = fraction_fault(value)
    if fault is not None:
        raise InvalidFraction(fault)


def is_fraction(value):
    """Whether any value is a fraction."""
    return fraction_fault(value) is None


def fraction(top, bottom):
    """The quotient of two integers."""
    if bottom == 0:
        raise InvalidSize("bottom")
    common = gcd(top, bottom)
    if bottom < 0:
        common = -common
    return (top // common, bottom // common)


def whole(number):
    """The fraction that is an integer."""
    return (number, 1)


def plus(one, other):
    """The sum of two fractions."""
    return fraction(one[0] * other[1] + other[0] * one[1], one[1] * other[1])


def minus(one, other):
    """The difference of two fractions."""
    return fraction(one[0] * other[1] - other[0] * one[1], one[1] * other[1])


def times(one, other):
    """The product of two fractions."""
    return fraction(one[0] * other[0], one[1] * other[1])


def over(one, other):
    """The quotient of two fractions."""
    return fraction(one[0] * other[1], one[1] * other[0])


def compared(one, other):
    """1, -1 or 0 as the first fraction is greater than the second one, lesser or equal."""
    ahead, behind = one[0] * other[1], other[0] * one[1]
    return int(ahead > behind) - int(ahead < behind)


def sign_of(one):
    """1, -1 or 0 as a fraction is above 0, below 0 or 0."""
    return compared(one, ZERO)


def same_product(one, other, third, fourth):
    """Whether the product of two fractions is that of two others."""
    # Multiplied across, long fractions need not be reduced.
    return one[0] * other[0] * third[1] * fourth[1] == third[0] * fourth[0] * one[1] * other[1]


def total_of(some):
    """The sum of a sequence of fractions."""
    # With one bottom for all, the sum is reduced once; reduced at each step, long sums take minutes.
    bottom = 1
    for one in some:
        bottom = lcm(bottom, one[1])
    return fraction(sum([one[0] * (bottom // one[1]) for one in some]), bottom)


def product_all(some):
    """The product of a sequence of fractions."""
    product = ONE
    for one in some:
        # Long products are reduced by what each factor can divide: reduced as a whole, they take minutes.
        above, below = gcd(product[0], one[1]), gcd(one[0], product[1])
        product = (product[0] // above * (one[0] // below), product[1] // below * (one[1] // above))
    return product


def least_of(some):
    """The least of a sequence of fractions."""
    return outermost(some, -1)


def greatest_of(some):
    """The greatest of a sequence of fractions."""
    return outermost(some, 1)


def outermost(some, side):
    """The greatest of a sequence of fractions for the side 1, the least one for -1."""
    if len(some) == 0:
        raise InvalidSize("some")
    best = some[0]
    for one in some:
        if compared(one, best) == side:
            best = one
    return best


def added_up(pairs):
    """The ascending tuple of pairs (key, sum of its fractions) out of such pairs, sums of 0 left out."""
    heaps = {}
    for key, one in pairs:
        heaps.setdefault(key, []).append(one)
    sums = [(key, total_of(heaps[key])) for key in sorted(heaps)]
    return tuple([pair for pair in sums if pair[1] != ZERO])


def fraction_text(one):
    """The text of a fraction."""
    top = "-" + figures_of(-one[0]) if one[0] < 0 else figures_of(one[0])
    return top if one[1] == 1 else top + "/" + figures_of(one[1])


def read_fraction(value):
    """The fraction with this text."""
    if not isinstance(value, str):
        raise InvalidText(-1)
    sign = "-" if value.startswith("-") else ""
    top, slash, bottom = value[len(sign):].partition("/")
    if not is_figures(top) or (slash == "/" and not is_figures(bottom)):
        raise InvalidText(0)
    below = number_with(bottom) if slash == "/" else 1
    if below == 0:
        raise InvalidText(0)
    above = number_with(top)
    found = fraction(-above if sign == "-" else above, below)
    if fraction_text(found) != value:
        raise InvalidText(0)
    return found


def is_figures(text):
    """Whether a string is at least one figure, and figures alone."""
    return text.isascii() and text.isdigit()


def figures_of(number):
    """The figures of a number from 0 on."""
    # Python writes and reads only a few thousand figures at once.
    heaps = []
    while number >= HEAP:
        number, last = divmod(number, HEAP)
        heaps.append(str(last).zfill(HEAP_WIDTH))
    heaps.append(str(number))
    return "".join(reversed(heaps))


def number_with(figures):
    """The number that has these figures, zeros ahead taken as well."""
    padded = figures.zfill(len(figures) + -len(figures) % HEAP_WIDTH)
    number = 0
    for at in range(0, len(padded), HEAP_WIDTH):
        number = number * HEAP + int(padded[at:at + HEAP_WIDTH])
    return number
