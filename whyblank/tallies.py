"""Tallies: of each number the words of the greatest edition that was heard."""

from whyblank.errors import InvalidSheets, InvalidSize
from whyblank.forms import is_form, is_sheet
from whyblank.kinds import is_number, is_tuple_of


class Tally:
    """A form, and rows (number, edition, words)."""

    def __init__(self, form, rows):
        self.form = form
        self.rows = rows

    def __eq__(self, other):
        return isinstance(other, Tally) and self.form == other.form and self.rows == other.rows


def is_word(form, value):
    """Whether any value is a sheet, or the word that takes all sheets back."""
    return is_tuple_of(value, 0) or is_sheet(form, value)


def need_letter(form, value):
    """Raises `InvalidSize` for what is no letter."""
    if not is_tuple_of(value, 3) or not is_number(value[0]) or not is_number(value[1]) or not is_word(form, value[2]):
        raise InvalidSize("letter")


def are_words(form, value):
    """Whether any value is an ascending tuple of at least one word."""
    if not isinstance(value, tuple) or len(value) == 0:
        return False
    for at, word in enumerate(value):
        if not is_word(form, word) or (at > 0 and word <= value[at - 1]):
            return False
    return True


def is_row(form, value):
    """Whether any value is a triple of a number, an edition and words."""
    return is_tuple_of(value, 3) and is_number(value[0]) and is_number(value[1]) and are_words(form, value[2])


def tally_fault(value):
    """What is wrong with any value as a tally, as `need_tally` tells it; None if nothing is."""
    if not isinstance(value, Tally) or not is_form(value.form) or not isinstance(value.rows, tuple):
        return -1
    for at, row in enumerate(value.rows):
        if not is_row(value.form, row) or (at > 0 and row[0] <= value.rows[at - 1][0]):
            return at
    return None


def need_tally(value):
    """Raises `InvalidSheets` for what is no tally."""
    fault = tally_fault(value)
    if fault is not None:
        raise InvalidSheets(fault)


def is_tally(value):
    """Whether any value is a tally."""
    return tally_fault(value) is None


def letters_of(tally):
    """All letters that a tally keeps, ascending."""
    return tuple([(number, edition, word) for number, edition, words in tally.rows for word in words])


def tally_of(form, letters):
    """The tally of letters in any order, however often each of them comes."""
    editions = {}
    for number, edition, _ in letters:
        editions[number] = max(edition, editions.get(number, 0))
    heard_words = {number: {} for number in editions}
    for number, edition, word in letters:
        if edition == editions[number]:
            heard_words[number][word] = True
    rows = [(number, editions[number], tuple(sorted(heard_words[number]))) for number in sorted(editions)]
    return Tally(form, tuple(rows))


def heard(tally, letter):
    """The tally behind one letter more."""
    return tally_of(tally.form, letters_of(tally) + (letter,))


def merged(one, other):
    """The tally of all letters of two tallies."""
    if one.form != other.form:
        raise InvalidSize("form")
    return tally_of(one.form, letters_of(one) + letters_of(other))


def missing_letters(one, other):
    """The letters of the first tally that the second one lacks, ascending."""
    kept = {letter: True for letter in letters_of(merged(one, other))}
    had = {letter: True for letter in letters_of(other)}
    return tuple([letter for letter in letters_of(one) if letter in kept and letter not in had])
