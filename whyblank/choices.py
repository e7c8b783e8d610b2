"""Options: what may stand behind each sheet if nothing is known of why answers were left blank."""

from whyblank.asks import is_given, worth_at
from whyblank.books import gathered_book
from whyblank.forms import lot_of, truths_behind


def option_at(form, ask, lot, truth):
    """What an ask tells of a lot and a truth: None where its test does not hold, else the worth."""
    return worth_at(form, ask, lot, truth) if is_given(form, ask, lot, truth) else None


def worths_in(some):
    """The options of some that are worths."""
    return [option for option in some if option is not None]


def options_of(form, ask, sheet):
    """The options of a sheet, None first, then ascending."""
    lot = lot_of(form, sheet)
    told = [option_at(form, ask, lot, truth) for truth in truths_behind(form, sheet)]
    return tuple(([None] if None in told else []) + sorted({worth for worth in worths_in(told)}))


def options(sheets, ask):
    """The pairs (sheet, options) of the sheets that come, ascending."""
    return tuple([(sheet, options_of(sheets.form, ask, sheet)) for sheet, _ in sheets.shares])


def open_sheets(sheets, ask):
    """The sheets that come with two options or more, ascending."""
    return tuple([sheet for sheet, some in options(sheets, ask) if len(some) > 1])


def pick_of(some, side, cut):
    """The option that is picked of some: the best worth for a side, or None where it is not counted by the cut."""
    worths = worths_in(some)
    if not worths:
        return None
    best = worths[0] if side == -1 else worths[-1]
    return best if None not in some or best * side >= cut * side else None


def picks_among(told, side, cut):
    """The pairs (sheet, option picked) out of pairs (sheet, options)."""
    return tuple([(sheet, pick_of(some, side, cut)) for sheet, some in told])


def picks(sheets, ask, side, cut):
    """The pairs (sheet, option picked) of the sheets that come, ascending."""
    return picks_among(options(sheets, ask), side, cut)


def book_of_picks(sheets, ask, some):
    """The book in which each sheet's share is at the least truth behind it that has the option picked."""
    form, picked = sheets.form, {sheet: option for sheet, option in some}
    shares = []
    for sheet, share in sheets.shares:
        lot = lot_of(form, sheet)
        fit = [truth for truth in truths_behind(form, sheet) if option_at(form, ask, lot, truth) == picked[sheet]]
        shares.append((lot, fit[0], share))
    return gathered_book(form, shares)
