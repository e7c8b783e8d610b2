"""Weights: how the sheets with blanks stand beside the full sheets of the truths behind them."""

from whyblank.errors import Refused
from whyblank.forms import is_sheet, lot_of, lots_within, sheet_of
from whyblank.fractions import ONE, ZERO, is_fraction, over, product_all, sign_of, total_of
from whyblank.kinds import is_tuple_of
from whyblank.sheets import sheet_share


def lots_that_come(sheets):
    """The lots that come in a table of sheets, ascending."""
    return tuple(sorted({lot_of(sheets.form, pair[0]) for pair in sheets.shares}))


def truths_that_come(sheets):
    """The truths that come in a table of sheets, as sheets without blanks, ascending."""
    return tuple([pair[0] for pair in sheets.shares if -1 not in pair[0]])


def is_every(sheets):
    """Whether every sheet of the form comes."""
    many = 1
    for question in sheets.form.questions:
        many *= question[1] + 1
    return len(sheets.shares) == many


def why_not_grown(sheets):
    """None for a grown table of sheets, else "lots" or "rows" for what does not hold first."""
    form, come = sheets.form, lots_that_come(sheets)
    for lot in come:
        if not all([lesser in come for lesser in lots_within(lot)]):
            return "lots"
    for lot in come:
        expected = sorted({sheet_of(form, lot, truth) for truth in truths_that_come(sheets)})
        if [pair[0] for pair in sheets.shares if lot_of(form, pair[0]) == lot] != expected:
            return "rows"
    return None


def need_grown(sheets):
    """Raises `Refused` with the word of `why_not_grown`."""
    word = why_not_grown(sheets)
    if word is not None:
        raise Refused(word)


def shares_by_sheet(sheets):
    """A dict of the shares of the sheets that come."""
    return {sheet: share for sheet, share in sheets.shares}


def blanked(form, lots, truth):
    """The sheets that are a truth with the blanks of one of these lots."""
    return [sheet_of(form, lot, truth) for lot in lots]


def lots_inside(lot):
    """All lots of some names of a lot, but not none."""
    return [lesser for lesser in lots_within(lot) if lesser != ()]


def weigh(form, shares, lots, truths):
    """The weights of the sheets with these lots that are one of these truths elsewhere, a dict.

    Shares are a dict by sheets; with each lot all lots within it are among the lots, and with each truth all others
    that come and differ from it in answers to the lot alone.
    """
    found = {}
    # The weight of a sheet rests on those of sheets with fewer blanks.
    for lot in sorted([one for one in lots if one != ()], key=len):
        lesser = [one for one in lots_inside(lot) if one != lot]
        terms = {}
        for truth in truths:
            term = product_all([shares[truth]] + [found[sheet] for sheet in blanked(form, lesser, truth)])
            terms.setdefault(sheet_of(form, lot, truth), []).append(term)
        for sheet in terms:
            found[sheet] = over(shares[sheet], total_of(terms[sheet]))
    return found


def weigh_behind(sheets, sheet):
    """The truths that come behind a sheet that comes, and the weights of the sheets that are they elsewhere."""
    form, lot = sheets.form, lot_of(sheets.form, sheet)
    truths = [truth for truth in truths_that_come(sheets) if sheet_of(form, lot, truth) == sheet]
    return (truths, weigh(form, shares_by_sheet(sheets), lots_within(lot), truths))


def weight(sheets, sheet):
    """The weight of a sheet of the form."""
    need_grown(sheets)
    if sheet_share(sheets, sheet) == ZERO:
        return ZERO
    return weigh_behind(sheets, sheet)[1].get(sheet, ONE)


def weights(sheets):
    """The pairs (sheet, weight) of all sheets that come and have blanks, ascending."""
    need_grown(sheets)
    found = weigh(sheets.form, shares_by_sheet(sheets), lots_that_come(sheets), truths_that_come(sheets))
    return tuple([(sheet, found[sheet]) for sheet in sorted(found)])


def are_weights_for(form, value, expected):
    """Whether any value is a tuple of pairs of each of the expected sheets, in order, and a fraction above 0."""
    if not is_tuple_of(value, len(expected)):
        return False
    for pair, sheet in zip(value, expected):
        if not is_tuple_of(pair, 2) or not is_sheet(form, pair[0]) or pair[0] != sheet:
            return False
        if not is_fraction(pair[1]) or sign_of(pair[1]) < 1:
            return False
    return True


def check_weights(sheets, value):
    """Whether a table is grown and any value is the tuple of its weights, judged by plain sums."""
    if why_not_grown(sheets) is not None:
        return False
    form, shares = sheets.form, shares_by_sheet(sheets)
    expected = [sheet for sheet in shares if -1 in sheet]
    if not are_weights_for(form, value, expected):
        return False
    given = {sheet: one for sheet, one in value}
    for lot in lots_that_come(sheets):
        inside, terms = lots_inside(lot), {}
        for truth in truths_that_come(sheets):
            term = product_all([shares[truth]] + [given[sheet] for sheet in blanked(form, inside, truth)])
            terms.setdefault(sheet_of(form, lot, truth), []).append(term)
        if not all([total_of(terms[sheet]) == shares[sheet] for sheet in terms]):
            return False
    return True


def behind(sheets, sheet):
    """The pairs (truth, share) of the truths of those who sent a sheet, by the one book, ascending."""
    need_grown(sheets)
    share = sheet_share(sheets, sheet)
    if share == ZERO:
        return ()
    form, shares, inside = sheets.form, shares_by_sheet(sheets), lots_inside(lot_of(sheets.form, sheet))
    truths, found = weigh_behind(sheets, sheet)
    pairs = []
    for truth in truths:
        term = product_all([shares[truth]] + [found[some] for some in blanked(form, inside, truth)])
        pairs.append((truth, over(term, share)))
    return tuple(pairs)


def stretch(sheets, truth):
    """How often a full sheet is counted in the one book: the sum of the products of weights over all lots."""
    need_grown(sheets)
    truths, lots = truths_that_come(sheets), lots_that_come(sheets)
    if truth not in truths:
        return ZERO
    found = weigh(sheets.form, shares_by_sheet(sheets), lots, truths)
    products = []
    for lot in lots:
        products.append(product_all([found[sheet] for sheet in blanked(sheets.form, lots_inside(lot), truth)]))
    return total_of(products)
