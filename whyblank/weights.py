"""Weights: how the sheets with blanks stand beside the full sheets of the truths behind them."""

from math import lcm

from whyblank.errors import Refused
from whyblank.forms import is_sheet, lot_of, lots_within, place_of, sheet_of, without_names
from whyblank.fractions import ONE, ZERO, fraction, is_fraction, over, product_all, sign_of, times, total_of
from whyblank.kinds import is_tuple_of
from whyblank.sheets import sheet_share


def lots_that_come(sheets):
    """The lots that come in a table of sheets, ascending."""
    return tuple(sorted({lot_of(sheets.form, pair[0]) for pair in sheets.shares}))


def truths_that_come(sheets):
    """The truths that come in a table of sheets, as sheets without blanks, ascending."""
    return tuple([pair[0] for pair in sheets.shares if -1 not in pair[0]])


def is_every(sheets):
    """Whether every sheet of the form comes."""
    many = 1
    for question in sheets.form.questions:
        many *= question[1] + 1
    return len(sheets.shares) == many


def why_not_told(sheets, lots):
    """None if each of these lots comes, with just the truths that come, else "lots" or "rows"."""
    form, come = sheets.form, lots_that_come(sheets)
    if not all([lot in come for lot in lots]):
        return "lots"
    for lot in lots:
        expected = sorted({sheet_of(form, lot, truth) for truth in truths_that_come(sheets)})
        if [pair[0] for pair in sheets.shares if lot_of(form, pair[0]) == lot] != expected:
            return "rows"
    return None


def why_not_grown(sheets):
    """None for a grown table of sheets, else "lots" or "rows" for what does not hold first."""
    return why_not_told(sheets, sorted({lesser for lot in lots_that_come(sheets) for lesser in lots_within(lot)}))


def need_grown(sheets):
    """Raises `Refused` with the word of `why_not_grown`."""
    word = why_not_grown(sheets)
    if word is not None:
        raise Refused(word)


def shares_by_sheet(sheets):
    """A dict of the shares of the sheets that come."""
    return {sheet: share for sheet, share in sheets.shares}


def blanked(form, lots, truth):
    """The sheets that are a truth with the blanks of one of these lots."""
    return [sheet_of(form, lot, truth) for lot in lots]


def lots_inside(lot):
    """All lots of some names of a lot, but not none."""
    return [lesser for lesser in lots_within(lot) if lesser != ()]


def over_one_bottom(values, sheets):
    """One bottom for the fractions of all these sheets, and a dict of their tops above it."""
    bottom = 1
    for sheet in sheets:
        bottom = lcm(bottom, values.get(sheet, ZERO)[1])
    tops = {}
    for sheet in sheets:
        top, below = values.get(sheet, ZERO)
        tops[sheet] = top * (bottom // below)
    return (bottom, tops)


def sum_behind(form, values, sheet, truths):
    """The sum, over truths behind a sheet, of the products of the values of all sheets from the truth to this one.

    Values are a dict of fractions by sheets, 0 where none stands. The sheets are the truth with none or some of the
    blanks of this one, but not all.
    """
    lot = lot_of(form, sheet)
    bottom, tables = 1, []
    # Long fractions are not reduced one by one here: whole numbers are multiplied, and the sum is reduced once.
    for lesser in lots_within(lot):
        if lesser != lot:
            below, tops = over_one_bottom(values, sorted({sheet_of(form, lesser, truth) for truth in truths}))
            bottom *= below
            tables.append((without_names(lot, lesser)[-1], lesser, tops))
    return fraction(top_behind(form, lot, tables, truths), bottom)


def top_behind(form, names, tables, truths):
    """The sum, over truths that are unlike in answers to these questions alone, of the products of the tops.

    A table (name, lot, tops) hangs on no question of these behind that name: its tops go ahead of the sums over them.
    """
    if not names:
        return 1
    place = place_of(form, names[0])
    groups = {}
    for truth in truths:
        groups.setdefault(truth[place], []).append(truth)
    total = 0
    for group in groups.values():
        term = top_behind(form, names[1:], tables, group)
        for name, lot, tops in tables:
            if name == names[0]:
                term *= tops[sheet_of(form, lot, group[0])]
        total += term
    return total


def sheets_with(form, lot, truths):
    """A dict of the sheets that are one of these truths with the blanks of a lot, each with its truths."""
    found = {}
    for truth in truths:
        found.setdefault(sheet_of(form, lot, truth), []).append(truth)
    return found


def weigh(form, shares, lots, truths):
    """The weights of the sheets with these lots that are one of these truths elsewhere, a dict.

    Shares are a dict by sheets; with each lot all lots within it are among the lots, and with each truth all others
    that come and differ from it in answers to the lot alone.
    """
    values, found = {truth: shares[truth] for truth in truths}, {}
    # The weight of a sheet rests on those of sheets with fewer blanks.
    for lot in sorted([one for one in lots if one != ()], key=len):
        for sheet, group in sheets_with(form, lot, truths).items():
            found[sheet] = over(shares[sheet], sum_behind(form, values, sheet, group))
            values[sheet] = found[sheet]
    return found


def grown_weights(sheets):
    """The weights of the sheets of a grown table that have blanks, a dict; `Refused` for another table."""
    need_grown(sheets)
    return weigh(sheets.form, shares_by_sheet(sheets), lots_that_come(sheets), truths_that_come(sheets))


def weight(sheets, sheet):
    """The weight of a sheet of the form."""
    need_grown(sheets)
    if sheet_share(sheets, sheet) == ZERO:
        return ZERO
    form, lot = sheets.form, lot_of(sheets.form, sheet)
    found = weigh(form, shares_by_sheet(sheets), lots_within(lot), truths_with(sheets, sheet))
    return found.get(sheet, ONE)


def truths_with(sheets, sheet):
    """The truths that come and have a sheet's answers."""
    form, lot = sheets.form, lot_of(sheets.form, sheet)
    return [truth for truth in truths_that_come(sheets) if sheet_of(form, lot, truth) == sheet]


def weights(sheets):
    """The pairs (sheet, weight) of all sheets that come and have blanks, ascending."""
    found = grown_weights(sheets)
    return tuple([(sheet, found[sheet]) for sheet in sorted(found)])


def are_weights_for(form, value, expected):
    """Whether any value is a tuple of pairs of each of the expected sheets, in order, and a fraction above 0."""
    if not is_tuple_of(value, len(expected)):
        return False
    for pair, sheet in zip(value, expected):
        if not is_tuple_of(pair, 2) or not is_sheet(form, pair[0]) or pair[0] != sheet:
            return False
        if not is_fraction(pair[1]) or sign_of(pair[1]) < 1:
            return False
    return True


def check_weights(sheets, value):
    """Whether a table is grown and any value is the tuple of its weights, judged by plain sums."""
    if why_not_grown(sheets) is not None:
        return False
    form, shares, come = sheets.form, shares_by_sheet(sheets), truths_that_come(sheets)
    expected = [sheet for sheet in shares if -1 in sheet]
    if not are_weights_for(form, value, expected):
        return False
    values = {truth: shares[truth] for truth in come}
    for sheet, given in value:
        values[sheet] = given
    for lot in lots_that_come(sheets):
        for sheet, group in sheets_with(form, lot, come).items():
            if lot != () and times(values[sheet], sum_behind(form, values, sheet, group)) != shares[sheet]:
                return False
    return True


def shares_behind(sheets, found, sheet):
    """The pairs (truth, share) of the truths of those who sent a sheet that comes, by the weights of the table."""
    form, shares, inside = sheets.form, shares_by_sheet(sheets), lots_inside(lot_of(sheets.form, sheet))
    pairs = []
    for truth in truths_with(sheets, sheet):
        term = product_all([shares[truth]] + [found[some] for some in blanked(form, inside, truth)])
        pairs.append((truth, over(term, shares[sheet])))
    return tuple(pairs)


def behind(sheets, sheet):
    """The pairs (truth, share) of the truths of those who sent a sheet, by the one book, ascending."""
    need_grown(sheets)
    if sheet_share(sheets, sheet) == ZERO:
        return ()
    form, lot = sheets.form, lot_of(sheets.form, sheet)
    found = weigh(form, shares_by_sheet(sheets), lots_within(lot), truths_with(sheets, sheet))
    return shares_behind(sheets, found, sheet)


def stretches_by(sheets, found):
    """How often the full sheet of each truth that comes is counted, by the weights of the table, a dict."""
    sums = {}
    insides = [lots_inside(lot) for lot in lots_that_come(sheets)]
    for truth in truths_that_come(sheets):
        products = []
        for inside in insides:
            products.append(product_all([found[sheet] for sheet in blanked(sheets.form, inside, truth)]))
        sums[truth] = total_of(products)
    return sums


def stretch(sheets, truth):
    """How often a full sheet is counted in the one book: the sum of the products of weights over all lots."""
    return stretches_by(sheets, grown_weights(sheets)).get(truth, ZERO)
