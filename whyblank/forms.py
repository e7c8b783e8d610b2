"""Forms: questions, and the truths, lots and sheets that go with them."""

from whyblank.errors import InvalidForm, NoName
from whyblank.kinds import is_int, is_name, is_part_of, is_tuple_of, tuples_over

MOST_QUESTIONS = 8


class Form:
    """Questions: pairs (name, how many answers)."""

    def __init__(self, questions):
        self.questions = questions

    def __eq__(self, other):
        return isinstance(other, Form) and self.questions == other.questions


def is_many(value):
    """Whether any value is how many answers a question may have."""
    return is_int(value) and 2 <= value <= 9


def may_follow(ahead, value):
    """Whether any value is a question that may stand behind these questions."""
    if not is_tuple_of(value, 2) or not is_name(value[0]) or not is_many(value[1]):
        return False
    return len(ahead) == 0 or value[0] > ahead[-1][0]


def form_fault(value):
    """What is wrong with any value as a form, as `need_form` tells it; None if nothing is."""
    if not isinstance(value, Form) or not isinstance(value.questions, tuple):
        return -1
    if not 1 <= len(value.questions) <= MOST_QUESTIONS:
        return -1
    for at, question in enumerate(value.questions):
        if not may_follow(value.questions[:at], question):
            return at
    return None


def need_form(value):
    """Raises `InvalidForm` for what is no form."""
    fault = form_fault(value)
    if fault is not None:
        raise InvalidForm(fault)


def is_form(value):
    """Whether any value is a form."""
    return form_fault(value) is None


def names_of(form):
    """The names of the questions."""
    return tuple([question[0] for question in form.questions])


def place_of(form, name):
    """The number of the question with this name."""
    for place, question in enumerate(form.questions):
        if question[0] == name:
            return place
    raise NoName(name)


def answers_of(form, name):
    """How many answers the question with this name has."""
    return form.questions[place_of(form, name)][1]


def are_answers(form, value, least):
    """Whether any value is a tuple of an integer for each question, from a least one up to its last answer."""
    if not is_tuple_of(value, len(form.questions)):
        return False
    for answer, question in zip(value, form.questions):
        if not is_int(answer) or not least <= answer < question[1]:
            return False
    return True


def is_truth(form, value):
    """Whether any value is a truth of a form."""
    return are_answers(form, value, 0)


def is_sheet(form, value):
    """Whether any value is a sheet of a form."""
    return are_answers(form, value, -1)


def is_lot(form, value):
    """Whether any value is a lot of a form."""
    return is_part_of(value, names_of(form))


def truths(form):
    """All truths of a form, ascending."""
    return tuples_over([question[1] for question in form.questions])


def all_sheets(form):
    """All sheets of a form, ascending."""
    moved = tuples_over([question[1] + 1 for question in form.questions])
    return tuple([tuple([number - 1 for number in one]) for one in moved])


def lots_within(lot):
    """All lots of names of a lot, ascending."""
    found = [()]
    for name in lot:
        found = found + [ahead + (name,) for ahead in found]
    return tuple(sorted(found))


def lots(form):
    """All lots of a form, ascending."""
    return lots_within(names_of(form))


def without_names(lot, names):
    """A lot without the names of another one."""
    return tuple([name for name in lot if name not in names])


def sheet_of(form, lot, truth):
    """The sheet on which a lot is left blank and the truth is told elsewhere."""
    return tuple([-1 if name in lot else answer for name, answer in zip(names_of(form), truth)])


def lot_of(form, sheet):
    """The lot of the blank questions of a sheet."""
    return tuple([name for name, answer in zip(names_of(form), sheet) if answer == -1])


def truths_behind(form, sheet):
    """The truths with a sheet's answers where it is not blank, ascending."""
    found = [()]
    for question, answer in zip(form.questions, sheet):
        open_to = list(range(question[1])) if answer == -1 else [answer]
        found = [ahead + (number,) for ahead in found for number in open_to]
    return tuple(found)
