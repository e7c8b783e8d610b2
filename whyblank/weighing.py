"""Asks answered by sheets: full sheets that are weighed, and the truths behind each sheet."""

from whyblank.asks import Ask, is_given, is_plain, mean_of, worth_at
from whyblank.errors import Refused
from whyblank.forms import lot_of, names_of
from whyblank.fractions import ONE, ZERO, over, times, total_of, whole
from whyblank.weights import grown_weights, need_grown, shares_behind, shares_by_sheet, stretches_by, truths_that_come


def full_answer(sheets, ask, counted):
    """The answer to a plain ask among the full sheets, each counted so often as a dict tells, else once."""
    form, shares, pairs = sheets.form, shares_by_sheet(sheets), []
    for truth in truths_that_come(sheets):
        if is_given(form, ask, (), truth):
            pairs.append((times(shares[truth], counted.get(truth, ONE)), worth_at(form, ask, (), truth)))
    return mean_of(pairs)


def weighed(sheets, ask):
    """The answer to a plain ask among the full sheets, each counted as often as its truth's stretch says."""
    if not is_plain(ask):
        raise Refused("blank")
    return full_answer(sheets, ask, stretches_by(sheets, grown_weights(sheets)))


def plain_answer(sheets, ask):
    """The answer to a plain ask among the full sheets as they are."""
    if not is_plain(ask):
        raise Refused("blank")
    need_grown(sheets)
    return full_answer(sheets, ask, {})


def parts_of_sheets(sheets, ask):
    """Triples (sheet, share of its senders for whom the test holds, sum of their shares times worths), ascending."""
    form, found = sheets.form, grown_weights(sheets)
    parts = []
    for sheet, _ in sheets.shares:
        lot = lot_of(form, sheet)
        sent = shares_behind(sheets, found, sheet)
        asked = [(truth, share) for truth, share in sent if is_given(form, ask, lot, truth)]
        worths = [times(share, whole(worth_at(form, ask, lot, truth))) for truth, share in asked]
        parts.append((sheet, total_of([share for _, share in asked]), total_of(worths)))
    return tuple(parts)


def answer_by_sheets(sheets, ask):
    """The answer to an ask, found sheet by sheet."""
    parts, shares = parts_of_sheets(sheets, ask), shares_by_sheet(sheets)
    total = total_of([times(shares[sheet], given) for sheet, given, _ in parts])
    if total == ZERO:
        raise Refused("nobody")
    return over(total_of([times(shares[sheet], worth) for sheet, _, worth in parts]), total)


def is_fair(sheets):
    """Whether all truths that come in a grown table have one stretch."""
    return unfair_truths(sheets) is None


def unfair_truths(sheets):
    """Two truths of a grown table with unlike stretches, None if there are none."""
    counted = stretches_by(sheets, grown_weights(sheets))
    come = truths_that_come(sheets)
    for truth in come:
        if counted[truth] != counted[come[0]]:
            return (come[0], truth)
    return None


def truth_alone(form, truth):
    """The test that holds for a truth alone."""
    test = ("all",)
    for name, answer in zip(names_of(form), truth):
        test = ("both", test, ("is", name, answer))
    return test


def unfair_ask(sheets):
    """Some plain ask to which full sheets as they are answer otherwise than weighed, None if there is none."""
    pair = unfair_truths(sheets)
    if pair is None:
        return None
    one, other = truth_alone(sheets.form, pair[0]), truth_alone(sheets.form, pair[1])
    return Ask(("if", one), ("either", one, other))
