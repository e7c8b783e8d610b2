"""Counting: which numbers of a tally are in doubt, gone, or count, and the table of what counts."""

from whyblank.sheets import even_sheets


def doubts(tally):
    """The numbers that are in doubt, ascending."""
    return tuple([number for number, _, words in tally.rows if len(words) > 1])


def gone(tally):
    """The numbers that are gone, ascending."""
    return tuple([number for number, _, words in tally.rows if words == ((),)])


def counted(tally):
    """The pairs (number, sheet) of the numbers that count, ascending."""
    return tuple([(number, words[0]) for number, _, words in tally.rows if len(words) == 1 and words[0] != ()])


def next_letter(tally, number, word):
    """The letter that sends a word for a number with the next edition."""
    editions = [row[1] for row in tally.rows if row[0] == number]
    return (number, editions[0] + 1 if editions else 0, word)


def sheets_counted(tally):
    """The table of sheets in which each number that counts adds an equal share to its sheet."""
    return even_sheets(tally.form, [sheet for _, sheet in counted(tally)])
