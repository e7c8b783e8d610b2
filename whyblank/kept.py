"""Kept weights: sheets that are counted one by one, and weights that go along with them."""

from whyblank.asks import answer_by
from whyblank.errors import InvalidSheets, InvalidSize, Refused
from whyblank.forms import is_sheet, truths_behind
from whyblank.fractions import ONE, ZERO, fraction, over
from whyblank.kinds import is_int
from whyblank.onebook import book_by_weights
from whyblank.sheets import Sheets
from whyblank.weights import need_grown, sum_behind


def more_blanks(sheet):
    """All sheets that are this one with some of its answers, none or all, left blank, ascending."""
    found = [()]
    for answer in sheet:
        open_to = [-1] if answer == -1 else [-1, answer]
        found = [ahead + (number,) for ahead in found for number in open_to]
    return tuple(found)


def blanks_on(sheet):
    """How many answers a sheet has left blank."""
    return sheet.count(-1)


def value_by(form, numbers, values, sheet):
    """The number of a sheet without blanks, as a fraction, or the kept weight of another one.

    Numbers and values are dicts by sheets; the values of all sheets with fewer blanks are right.
    """
    number = fraction(numbers.get(sheet, 0), 1)
    if number == ZERO or -1 not in sheet:
        return number
    total = sum_behind(form, values, sheet, [truth for truth in truths_behind(form, sheet) if truth in numbers])
    return ZERO if total == ZERO else over(number, total)


def kept_pairs(values):
    """The pairs (sheet, kept weight) of all sheets with blanks whose kept weight is not 0, ascending."""
    return tuple([(sheet, values[sheet]) for sheet in sorted(values) if -1 in sheet and values[sheet] != ZERO])


def weights_by(form, counts):
    """The pairs (sheet, kept weight) of all sheets with blanks whose kept weight by counts is not 0, ascending."""
    numbers, values = {sheet: number for sheet, number in counts}, {}
    for sheet in sorted(numbers, key=blanks_on):
        values[sheet] = value_by(form, numbers, values, sheet)
    return kept_pairs(values)


def need_many(value):
    """Raises `InvalidSize` for what is no integer above 0."""
    if not is_int(value) or value < 1:
        raise InvalidSize("many")


def turned_back(changes):
    """The changes that take back some changes, pairs (sheet, how many more)."""
    return tuple([(sheet, -many) for sheet, many in changes])


class Kept:
    """Counts of sheets, and their kept weights."""

    def __init__(self, form):
        self.form = form
        self._numbers = {}
        self._values = {}
        self._last = ()
        self._done = 0
        self._past = ()
        self._ahead = ()

    def put(self, sheet, many):
        """Counts a sheet so many times more."""
        self._need_sheet(sheet, 0)
        need_many(many)
        self._step(((sheet, many),))

    def take(self, sheet, many):
        """Counts a sheet so many times less."""
        self._need_sheet(sheet, 0)
        need_many(many)
        self._need_counted(sheet, many)
        self._step(((sheet, -many),))

    def move(self, sheet, other, many):
        """Counts a sheet so many times less, and another one as many times more."""
        self._need_sheet(sheet, 0)
        self._need_sheet(other, 1)
        need_many(many)
        self._need_counted(sheet, many)
        self._step(((sheet, -many), (other, many)))

    def _need_sheet(self, value, at):
        """Raises `InvalidSheets` with this number for what is no sheet of the form."""
        if not is_sheet(self.form, value):
            raise InvalidSheets(at)

    def _need_counted(self, sheet, many):
        """Raises `Refused` for a sheet that is counted fewer times."""
        if self._numbers.get(sheet, 0) < many:
            raise Refused("few")

    def _step(self, changes):
        """Does a new step."""
        self._change(changes)
        self._past = self._past + (changes,)
        self._ahead = ()

    def _change(self, changes):
        """Changes the numbers of sheets, and does the kept weights that hang on them anew."""
        for sheet, many in changes:
            number = self._numbers.get(sheet, 0) + many
            self._numbers[sheet] = number
            if number == 0:
                del self._numbers[sheet]
        self._last = tuple(sorted({some for sheet, _ in changes for some in more_blanks(sheet)}))
        self._done += len(self._last)
        for some in sorted(self._last, key=blanks_on):
            self._values[some] = value_by(self.form, self._numbers, self._values, some)

    def counts(self):
        """The pairs (sheet, number) of the sheets that are counted, ascending."""
        return tuple([(sheet, self._numbers[sheet]) for sheet in sorted(self._numbers)])

    def whole(self):
        """How many sheets are counted, all together."""
        return sum(list(self._numbers.values()))

    def weights(self):
        """The pairs (sheet, kept weight) of all sheets with blanks whose kept weight is not 0, ascending."""
        return kept_pairs(self._values)

    def weight_now(self, sheet):
        """The kept weight of a sheet of the form."""
        value = self._values.get(sheet, ZERO)
        return ONE if -1 not in sheet and value != ZERO else value

    def last(self):
        """The sheets whose kept weights the last step did anew, ascending."""
        return self._last

    def done(self):
        """How many kept weights all steps together did anew."""
        return self._done

    def table(self):
        """The table of the counted sheets."""
        if not self._numbers:
            raise Refused("none")
        total = self.whole()
        return Sheets(self.form, tuple([(sheet, fraction(number, total)) for sheet, number in self.counts()]))

    def book_now(self):
        """The one book of the table, found by the kept weights."""
        sheets = self.table()
        need_grown(sheets)
        return book_by_weights(sheets, self._values)

    def answer_now(self, ask):
        """The answer to an ask by the one book of the table."""
        return answer_by(self.book_now(), ask)

    def undo(self):
        """Takes back the last step that stands, and tells whether there is one."""
        if not self._past:
            return False
        changes = self._past[-1]
        self._change(turned_back(changes))
        self._past = self._past[:-1]
        self._ahead = self._ahead + (changes,)
        return True

    def redo(self):
        """Does the last step that was taken back once more, and tells whether there is one."""
        if not self._ahead:
            return False
        changes = self._ahead[-1]
        self._change(changes)
        self._past = self._past + (changes,)
        self._ahead = self._ahead[:-1]
        return True

    def depth(self):
        """How many steps can be taken back, and how many done once more."""
        return (len(self._past), len(self._ahead))

    def twin(self):
        """Another one at the same place, of which later changes do not touch this one."""
        other = Kept(self.form)
        other._numbers = {sheet: self._numbers[sheet] for sheet in self._numbers}
        other._values = {sheet: self._values[sheet] for sheet in self._values}
        other._last = self._last
        other._done = self._done
        other._past = self._past
        other._ahead = self._ahead
        return other
